/-
  The document's truths: Truth, Is, all, Not, And, Or.
  The document's Or; And, Or, Not as calls.
-/
import Derived.Test.YtfffjbnbhmohjaaGreatDoorValP
namespace Go.Proofs.YtfffjbnbhmohjaaGreatDoor
open Go.RowKit Word Txt
attribute [local go_sem] setCell_drewN cell?_ext frozen?_ext shape?_ext setCell_ext lt_1' ne_1' en_1' le_1' lt_2' ne_2' en_2' le_2' lt_3' ne_3' en_3' le_3' lt_4' ne_4' en_4' le_4' lt_5' ne_5' en_5' le_5' lt_6' ne_6' en_6' le_6' lt_7' ne_7' en_7' le_7' lt_8' ne_8' en_8' le_8' lt_9' ne_9' en_9' le_9' lt_10' ne_10' en_10' le_10' lt_11' ne_11' en_11' le_11' lt_12' ne_12' en_12' le_12'

theorem rTruth_any (b : Bool) (w : World) : Calls Tryz.prog 56 #[.bool b] w fun e w' => e = .returned (TV 1 b) ∧ Below w.heap.size w w' := by
  go_enter Tryz.func56, Tryz.ntmps56
  go_wp2
  go_returns
  exact ⟨rfl, by (repeat' (first | (with_reducible exact Below.refl _ _) | (with_reducible assumption) | (with_reducible refine Below.alloc ?_ ?_ _) | (with_reducible refine below_drewN ?_ _) | (with_reducible refine below_drew ?_) | (with_reducible refine below_ext ?_ ?_ _ _) | (with_reducible refine Below.setCell ?_ ?_ _) | (simp; done) | (simp; omega) | omega))⟩
theorem rIs_any (k : Int) (yes neg : Bool) (a b' : Int) (s : Int) (t : ByteArray) (day : Int) (pl pn : Option Addr) (nl cl nn cn : Nat) (b : Bool) (w : World) :
    Calls Tryz.prog 23 #[.agg #[.int .i64 k, .bool yes, .bool neg, .int .u64 a, .int .u64 b', .int .i64 s, .string t, .int .i64 day, .slice pl nl cl, .slice pn nn cn], .bool b] w fun e w' => e = .returned (.bool (isB k yes b)) ∧ Below w.heap.size w w' := by
  unfold isB
  cases hk : (k == 1)
  · go_enter Tryz.func23, Tryz.ntmps23
    go_wp2
    go_ret
    exact ⟨rfl, by (repeat' (first | (with_reducible exact Below.refl _ _) | (with_reducible assumption) | (with_reducible refine Below.alloc ?_ ?_ _) | (with_reducible refine below_drewN ?_ _) | (with_reducible refine below_drew ?_) | (with_reducible refine below_ext ?_ ?_ _ _) | (with_reducible refine Below.setCell ?_ ?_ _) | (simp; done) | (simp; omega) | omega))⟩
  · cases yes <;> cases b
    all_goals
      go_enter Tryz.func23, Tryz.ntmps23
      go_wp2
      go_ret
      exact ⟨rfl, by (repeat' (first | (with_reducible exact Below.refl _ _) | (with_reducible assumption) | (with_reducible refine Below.alloc ?_ ?_ _) | (with_reducible refine below_drewN ?_ _) | (with_reducible refine below_drew ?_) | (with_reducible refine below_ext ?_ ?_ _ _) | (with_reducible refine Below.setCell ?_ ?_ _) | (simp; done) | (simp; omega) | omega))⟩
/-- a value's truth -/
def V.tri (v : V) : P3 := (v.kind, v.yes)
theorem all3_cons (o p : P3) (r : List P3) : all3 o (p :: r) = if isB p.1 p.2 false = true then (1, false) else if isB p.1 p.2 true = true then all3 o r else all3 (0, false) r := rfl
theorem all3_drop (o : P3) (l : List V) (m : Nat) (h : m < l.length) : all3 o ((l.drop m).map V.tri) = if isB l[m].kind l[m].yes false = true then (1, false) else if isB l[m].kind l[m].yes true = true then all3 o ((l.drop (m + 1)).map V.tri) else all3 (0, false) ((l.drop (m + 1)).map V.tri) := by
  rw [List.drop_eq_getElem_cons h, List.map_cons, all3_cons]; rfl
theorem at_yes {v : V} {n : Nat} {w : World} {k : Int} {y : Bool} {x2 x3 x4 x5 x6 x7 x8 x9 : Value} (h : v.At n w (.agg #[.int .i64 k, .bool y, x2, x3, x4, x5, x6, x7, x8, x9])) : v.yes = y := by
  cases v
  obtain ⟨lv, nv, hx, _⟩ := at_mk h
  simp only [Value.agg.injEq, Array.mk.injEq, List.cons.injEq, and_true, Value.bool.injEq] at hx
  exact hx.2.1.symm
set_option maxHeartbeats 8000000 in
set_option maxRecDepth 100000 in
theorem all_any (n : Nat) (l : List V) (w : World) (x : Value) (hx : VSl n w l x) (hl : l.length ≤ 1048576) (_hnw : n ≤ w.heap.size) :
    Calls Tryz.prog 58 #[x] w fun e w' => e = .returned (TV (all3 (1, true) (l.map V.tri)).1 (all3 (1, true) (l.map V.tri)).2) ∧ Below w.heap.size w w' := by
  have HTr := Lib.hid (fun b w => rTruth_any b w)
  obtain ⟨px, cx, ex⟩ := hx.shape
  have HD := Lib.hid (fun (p : P3) (m : Nat) (h : m < l.length) => all3_drop p l m h)
  obtain ⟨tot, htot⟩ : ∃ tot, tot = all3 (1, true) (l.map V.tri) := ⟨_, rfl⟩
  rw [← htot]
  have HTOT := Lib.hid htot
  obtain ⟨len, hln⟩ : ∃ len, l.length = len := ⟨_, rfl⟩
  have HLN := Lib.hid hln
  subst ex
  rw [hln] at hx hl ⊢
  have HA := Lib.hid hx
  clear hx hln htot
  go_enter Tryz.func58, Tryz.ntmps58
  go_wp2_with (first
    | (go_at_call 56; ((with_reducible refine (HTr.out _ _).mono ?_); rintro e w1 ⟨rfl, hb1⟩; obtain ⟨osA, dA, rfl⟩ := ext_of_below hb1; clear hb1)))
  go_loopw [4] (fun i wr => ∃ (m : Nat) (p : P3), m ≤ len ∧ i = .int .i64 m ∧ (∃ (os : Array Obj) (d : Nat), wr = ext ((ext (w.alloc (.cells #[.int .i64 0, .bool false, .bool false, .int .u64 0, .int .u64 0, .int .i64 0, .string ⟨#[]⟩, .int .i64 0, .slice none 0 0, .slice none 0 0] 30)) osA dA).alloc (.cells #[.int .i64 p.1, .bool p.2, .bool false, .int .u64 0, .int .u64 0, .int .i64 0, .string ⟨#[]⟩, .int .i64 0, .slice none 0 0, .slice none 0 0] 30)) os d) ∧ all3 p ((l.drop m).map V.tri) = tot) (fun i _ => len - (intOf i).toNat)
  case atStart => exact ⟨0, (1, true), by omega, rfl, ⟨_, _, ext_here _⟩, by rw [HTOT.out]; rfl⟩
  case round =>
    obtain ⟨m, ⟨pk, py⟩, hm, rfl, ⟨osR, dR, rfl⟩, hs0⟩ := hrel
    have HS := Lib.hid hs0
    clear hs0
    by_cases hml : m < len
    · have hi : (m : Int) < len := by omega
      have h1 : m < l.length := by have := HLN.out; omega
      obtain ⟨g, o, rfl, hg, hr⟩ : ∃ g o, px = some ⟨g, o, none⟩ ∧ g < w.heap.size ∧ RowAt n w g l o := by
        rcases HA.out with ⟨h, _⟩ | ⟨g, o, cap, h, _, hg, hr⟩
        · rw [h] at h1; simp at h1
        · simp only [Value.slice.injEq] at h; exact ⟨g, o, h.1, hg, hr⟩
      obtain ⟨k1, yes1, neg1, a1, b1, s1, t1, day1, pl1, nl1, cl1, pn1, nn1, cn1, u0, u1, u2, u3, u4, u5, u6, u7, u8, u9, hat1⟩ := hr.elem m h1
      have hk := at_kind hat1
      have hy := at_yes hat1
      have HI := Lib.hid (fun b w => rIs_any k1 yes1 neg1 a1 b1 s1 t1 day1 pl1 pn1 nl1 cl1 nn1 cn1 b w)
      have hst := HD.out (pk, py) m h1
      rw [hk, hy, HS.out] at hst
      obtain ⟨qf, hqf⟩ : ∃ q, q = isB k1 yes1 false := ⟨_, rfl⟩
      obtain ⟨qt, hqt⟩ : ∃ q, q = isB k1 yes1 true := ⟨_, rfl⟩
      have HIF := Lib.hid (fun w => HI.out false w)
      have HIT := Lib.hid (fun w => HI.out true w)
      rw [← hqf] at HIF hst
      rw [← hqt] at HIT hst
      have HST := Lib.hid hst
      have hg1 : g < w.heap.size + 1 := by omega
      have hg2 : g < w.heap.size + 1 + osA.size := by omega
      have hg3 : g < w.heap.size + 1 + osA.size + 1 := by omega
      have hg4 : g < w.heap.size + 1 + osA.size + 1 + osR.size := by omega
      clear hat1 HI hr HA hk hy hst hqf hqt
      cases qf
      · cases qt
        · have HN := Lib.hid (show all3 (0, false) ((l.drop (m + 1)).map V.tri) = tot from HST.out.symm)
          go_wp2_with (first
            | (go_at_call 23; ((with_reducible refine (HIF.out _).mono ?_); rintro e w1 ⟨rfl, hb1⟩; obtain ⟨osB, dB, rfl⟩ := ext_of_below hb1; clear hb1))
            | (go_at_call 23; ((with_reducible refine (HIT.out _).mono ?_); rintro e w1 ⟨rfl, hb1⟩; obtain ⟨osC, dC, rfl⟩ := ext_of_below hb1; clear hb1)))
          go_roundw
          case rel => exact ⟨m + 1, (0, false), by omega, by go_num, ext_of_below (by (repeat' (first | (with_reducible exact Below.refl _ _) | (with_reducible assumption) | (with_reducible refine Below.alloc ?_ ?_ _) | (with_reducible refine below_drewN ?_ _) | (with_reducible refine below_drew ?_) | (with_reducible refine below_ext ?_ ?_ _ _) | (with_reducible refine Below.setCell ?_ ?_ _) | (simp; done) | (simp; omega) | omega))), HN.out⟩
          case measure => simp [intOf]; omega
        · have HN := Lib.hid (show all3 (pk, py) ((l.drop (m + 1)).map V.tri) = tot from HST.out.symm)
          go_wp2_with (first
            | (go_at_call 23; ((with_reducible refine (HIF.out _).mono ?_); rintro e w1 ⟨rfl, hb1⟩; obtain ⟨osB, dB, rfl⟩ := ext_of_below hb1; clear hb1))
            | (go_at_call 23; ((with_reducible refine (HIT.out _).mono ?_); rintro e w1 ⟨rfl, hb1⟩; obtain ⟨osC, dC, rfl⟩ := ext_of_below hb1; clear hb1)))
          go_roundw
          case rel => exact ⟨m + 1, (pk, py), by omega, by go_num, ext_of_below (by (repeat' (first | (with_reducible exact Below.refl _ _) | (with_reducible assumption) | (with_reducible refine Below.alloc ?_ ?_ _) | (with_reducible refine below_drewN ?_ _) | (with_reducible refine below_drew ?_) | (with_reducible refine below_ext ?_ ?_ _ _) | (with_reducible refine Below.setCell ?_ ?_ _) | (simp; done) | (simp; omega) | omega))), HN.out⟩
          case measure => simp [intOf]; omega
      · have HN := Lib.hid (show tot = (1, false) from HST.out)
        go_wp2_with (first
          | (go_at_call 23; ((with_reducible refine (HIF.out _).mono ?_); rintro e w1 ⟨rfl, hb1⟩; obtain ⟨osB, dB, rfl⟩ := ext_of_below hb1; clear hb1))
          | (go_at_call 56; ((with_reducible refine (HTr.out _ _).mono ?_); rintro e w1 ⟨rfl, hb1⟩; obtain ⟨osC, dC, rfl⟩ := ext_of_below hb1; clear hb1)))
        go_returns
        exact ⟨by rw [HN.out], by (repeat' (first | (with_reducible exact Below.refl _ _) | (with_reducible assumption) | (with_reducible refine Below.alloc ?_ ?_ _) | (with_reducible refine below_drewN ?_ _) | (with_reducible refine below_drew ?_) | (with_reducible refine below_ext ?_ ?_ _ _) | (with_reducible refine Below.setCell ?_ ?_ _) | (simp; done) | (simp; omega) | omega))⟩
    · obtain rfl : m = len := by omega
      have hi : ¬ (m : Int) < m := by omega
      have HR := Lib.hid (show tot = (pk, py) by
        rw [← HS.out, ← HLN.out, List.drop_length]; rfl)
      go_wp2
      go_returns
      exact ⟨by rw [HR.out], by (repeat' (first | (with_reducible exact Below.refl _ _) | (with_reducible assumption) | (with_reducible refine Below.alloc ?_ ?_ _) | (with_reducible refine below_drewN ?_ _) | (with_reducible refine below_drew ?_) | (with_reducible refine below_ext ?_ ?_ _ _) | (with_reducible refine Below.setCell ?_ ?_ _) | (simp; done) | (simp; omega) | omega))⟩
theorem rNot_any (k : Int) (yes neg : Bool) (c : Nat) (s : Int) (t : ByteArray) (day : Int) (pl pn : Option Addr) (nl cl nn cn : Nat) (w : World) :
    Calls Tryz.prog 44 #[VC k yes neg c s t day (.slice pl nl cl) (.slice pn nn cn)] w fun e w' => e = .returned (TV (notK k) (notY k yes)) ∧ Below w.heap.size w w' := by
  have HT := Lib.hid (fun w => rTruth_any (!yes) w)
  unfold notK notY
  by_cases hk : k = 1
  · subst hk
    go_enter Tryz.func44, Tryz.ntmps44
    go_wp2_with (first
      | (go_at_call 56; ((with_reducible refine (HT.out _).mono ?_); rintro e w1 ⟨rfl, hb1⟩; obtain ⟨osA, dA, rfl⟩ := ext_of_below hb1; clear hb1)))
    go_returns
    exact ⟨rfl, by (repeat' (first | (with_reducible exact Below.refl _ _) | (with_reducible assumption) | (with_reducible refine Below.alloc ?_ ?_ _) | (with_reducible refine below_drewN ?_ _) | (with_reducible refine below_drew ?_) | (with_reducible refine below_ext ?_ ?_ _ _) | (with_reducible refine Below.setCell ?_ ?_ _) | (simp; done) | (simp; omega) | omega))⟩
  · have hk1 : (k == 1) = false := beq_eq_false_iff_ne.2 hk
    have hk2 : (k != 1) = true := by simp [bne, hk1]
    rw [if_neg hk, hk1]
    go_enter Tryz.func44, Tryz.ntmps44
    go_wp2
    go_returns
    exact ⟨rfl, by (repeat' (first | (with_reducible exact Below.refl _ _) | (with_reducible assumption) | (with_reducible refine Below.alloc ?_ ?_ _) | (with_reducible refine below_drewN ?_ _) | (with_reducible refine below_drew ?_) | (with_reducible refine below_ext ?_ ?_ _ _) | (with_reducible refine Below.setCell ?_ ?_ _) | (simp; done) | (simp; omega) | omega))⟩
theorem all3_two (p q : P3) : all3 (1, true) [p, q] = and3 p q := by
  rw [← fold_all [p, q] (1, true) (.inl rfl)]
  show and3 (and3 (1, true) p) q = and3 p q
  rw [and3_is (and3 (1, true) p) q, and3_is p q, isB_and_f, isB_and_t]
  cases isB p.1 p.2 false <;> cases isB p.1 p.2 true <;> cases isB q.1 q.2 false <;> cases isB q.1 q.2 true <;> rfl
/-- two values side by side in a block just made -/
theorem two_row {W : World} {T : TypeId} {x0 x1 x2 x3 x4 x5 x6 x7 x8 x9 y0 y1 y2 y3 y4 y5 y6 y7 y8 y9 : Value} {v v' : V} {n : Nat} (h : v.At n (W.alloc (.cells #[x0, x1, x2, x3, x4, x5, x6, x7, x8, x9, y0, y1, y2, y3, y4, y5, y6, y7, y8, y9] T)) (.agg #[x0, x1, x2, x3, x4, x5, x6, x7, x8, x9])) (h' : v'.At n (W.alloc (.cells #[x0, x1, x2, x3, x4, x5, x6, x7, x8, x9, y0, y1, y2, y3, y4, y5, y6, y7, y8, y9] T)) (.agg #[y0, y1, y2, y3, y4, y5, y6, y7, y8, y9])) :
    RowAt n (W.alloc (.cells #[x0, x1, x2, x3, x4, x5, x6, x7, x8, x9, y0, y1, y2, y3, y4, y5, y6, y7, y8, y9] T)) W.heap.size [v, v'] 0 := by
  unfold RowAt
  refine ⟨⟨_, _, _, _, _, _, _, _, _, _, ?_, ?_, ?_, ?_, ?_, ?_, ?_, ?_, ?_, ?_, h⟩, ?_⟩
  all_goals try (simp [go_sem]; done)
  unfold RowAt
  refine ⟨⟨_, _, _, _, _, _, _, _, _, _, ?_, ?_, ?_, ?_, ?_, ?_, ?_, ?_, ?_, ?_, h'⟩, by unfold RowAt; trivial⟩
  all_goals (simp [go_sem]; done)
theorem two_sl {W : World} {T : TypeId} {x0 x1 x2 x3 x4 x5 x6 x7 x8 x9 y0 y1 y2 y3 y4 y5 y6 y7 y8 y9 : Value} {v v' : V} {b c : Nat} (hb : b = W.heap.size) (h : v.At (W.heap.size + 1) (W.alloc (.cells #[x0, x1, x2, x3, x4, x5, x6, x7, x8, x9, y0, y1, y2, y3, y4, y5, y6, y7, y8, y9] T)) (.agg #[x0, x1, x2, x3, x4, x5, x6, x7, x8, x9])) (h' : v'.At (W.heap.size + 1) (W.alloc (.cells #[x0, x1, x2, x3, x4, x5, x6, x7, x8, x9, y0, y1, y2, y3, y4, y5, y6, y7, y8, y9] T)) (.agg #[y0, y1, y2, y3, y4, y5, y6, y7, y8, y9])) :
    VSl (W.alloc (.cells #[x0, x1, x2, x3, x4, x5, x6, x7, x8, x9, y0, y1, y2, y3, y4, y5, y6, y7, y8, y9] T)).heap.size (W.alloc (.cells #[x0, x1, x2, x3, x4, x5, x6, x7, x8, x9, y0, y1, y2, y3, y4, y5, y6, y7, y8, y9] T)) [v, v'] (.slice (some ⟨b, 0, none⟩) 2 c) := by
  subst hb
  have hz : (W.alloc (.cells #[x0, x1, x2, x3, x4, x5, x6, x7, x8, x9, y0, y1, y2, y3, y4, y5, y6, y7, y8, y9] T)).heap.size = W.heap.size + 1 := by simp
  rw [hz]
  exact Or.inr ⟨_, 0, c, rfl, by omega, by rw [hz]; omega, two_row h h'⟩
set_option maxHeartbeats 8000000 in
theorem rAnd_any (v v' : V) (n : Nat) (w : World) (x x' : Value) (hx : v.At n w x) (hx' : v'.At n w x') (hnw : n ≤ w.heap.size) :
    Calls Tryz.prog 40 #[x, x'] w fun e w' => e = .returned (TV (and3 v.tri v'.tri).1 (and3 v.tri v'.tri).2) ∧ Below w.heap.size w w' := by
  have HAL := Lib.hid (fun w' y (h : VSl w'.heap.size w' [v, v'] y) => all_any w'.heap.size [v, v'] w' y h (by simp) (Nat.le_refl _))
  have HV := Lib.hid (fun w' (hb : Below w.heap.size w w') => And.intro (hx.below (hb.mono hnw)) (hx'.below (hb.mono hnw)))
  obtain ⟨k, yes, neg, c, s, t, day, pl, nl, cl, pn, nn, cn, rfl, -, -⟩ := at_shape hx
  obtain ⟨k', yes', neg', c', s', t', day', pl', nl', cl', pn', nn', cn', rfl, -, -⟩ := at_shape hx'
  rw [← all3_two]
  change Calls _ _ _ _ fun e w' => e = .returned (TV (all3 (1, true) ([v, v'].map V.tri)).1 (all3 (1, true) ([v, v'].map V.tri)).2) ∧ _
  generalize all3 (1, true) ([v, v'].map V.tri) = res at *
  clear hx hx'
  go_enter Tryz.func40, Tryz.ntmps40
  go_wp2_with (first
    | (go_at_call 58; ((with_reducible refine (HAL.out _ _ (two_sl (by simp) ((HV.out _ (by (repeat' (first | (with_reducible exact Below.refl _ _) | (with_reducible assumption) | (with_reducible refine Below.alloc ?_ ?_ _) | (with_reducible refine below_drewN ?_ _) | (with_reducible refine below_drew ?_) | (with_reducible refine below_ext ?_ ?_ _ _) | (with_reducible refine Below.setCell ?_ ?_ _) | (simp; done) | (simp; omega) | omega)))).1.more (by simp; omega)) ((HV.out _ (by (repeat' (first | (with_reducible exact Below.refl _ _) | (with_reducible assumption) | (with_reducible refine Below.alloc ?_ ?_ _) | (with_reducible refine below_drewN ?_ _) | (with_reducible refine below_drew ?_) | (with_reducible refine below_ext ?_ ?_ _ _) | (with_reducible refine Below.setCell ?_ ?_ _) | (simp; done) | (simp; omega) | omega)))).2.more (by simp; omega)))).mono ?_); rintro e w1 ⟨rfl, hb1⟩; obtain ⟨osA, dA, rfl⟩ := ext_of_below hb1; clear hb1)))
  go_returns
  exact ⟨rfl, by (repeat' (first | (with_reducible exact Below.refl _ _) | (with_reducible assumption) | (with_reducible refine Below.alloc ?_ ?_ _) | (with_reducible refine below_drewN ?_ _) | (with_reducible refine below_drew ?_) | (with_reducible refine below_ext ?_ ?_ _ _) | (with_reducible refine Below.setCell ?_ ?_ _) | (simp; done) | (simp; omega) | omega))⟩
end Go.Proofs.YtfffjbnbhmohjaaGreatDoor
namespace Go.Proofs.YtfffjbnbhmohjaaGreatDoor
open Go.RowKit Word Txt
attribute [local go_sem] setCell_drewN cell?_ext frozen?_ext shape?_ext setCell_ext lt_1' ne_1' en_1' le_1' lt_2' ne_2' en_2' le_2' lt_3' ne_3' en_3' le_3' lt_4' ne_4' en_4' le_4' lt_5' ne_5' en_5' le_5' lt_6' ne_6' en_6' le_6' lt_7' ne_7' en_7' le_7' lt_8' ne_8' en_8' le_8' lt_9' ne_9' en_9' le_9' lt_10' ne_10' en_10' le_10' lt_11' ne_11' en_11' le_11' lt_12' ne_12' en_12' le_12'

theorem tri_mk (k : Int) (yes neg : Bool) (c : Nat) (s : Int) (t : ByteArray) (day : Int) (l : List V) (ns : List ByteArray) : (V.mk k yes neg c s t day l ns).tri = (k, yes) := rfl
/-- a truth as a value's data -/
def tvV (p : P3) : V := .mk p.1 p.2 false 0 0 ⟨#[]⟩ 0 [] []
theorem tv_at (p : P3) (n : Nat) (w : World) : (tvV p).At n w (TV p.1 p.2) := by
  unfold tvV V.At
  exact ⟨.slice none 0 0, .slice none 0 0, rfl, ⟨by decide, by decide, by simp, by simp⟩, .inl ⟨rfl, none, 0, rfl⟩, .inl ⟨rfl, none, 0, rfl⟩, by simp⟩
theorem tv_tri (p : P3) : (tvV p).tri = p := rfl
theorem tv_count (p : P3) : (tvV p).count = 1 := by unfold tvV V.count countL; rfl
theorem tv_eqb (p : P3) : (tvV p).eqb (tvV p) = true := eqb_refl _
theorem rNot_any' (k : Int) (yes : Bool) (w : World) : Calls Tryz.prog 44 #[TV k yes] w fun e w' => e = .returned (TV (notK k) (notY k yes)) ∧ Below w.heap.size w w' :=
  rNot_any k yes false 0 0 ⟨#[]⟩ 0 none none 0 0 0 0 w
set_option maxHeartbeats 8000000 in
theorem rOr_any (v v' : V) (n : Nat) (w : World) (x x' : Value) (hx : v.At n w x) (hx' : v'.At n w x') (_hnw : n ≤ w.heap.size) :
    Calls Tryz.prog 42 #[x, x'] w fun e w' => e = .returned (TV (or3 v.tri v'.tri).1 (or3 v.tri v'.tri).2) ∧ Below w.heap.size w w' := by
  obtain ⟨k, yes, neg, c, s, t, day, pl, nl, cl, pn, nn, cn, rfl, hk, hy⟩ := at_shape hx
  obtain ⟨k', yes', neg', c', s', t', day', pl', nl', cl', pn', nn', cn', rfl, hk', hy'⟩ := at_shape hx'
  have HN1 := Lib.hid (fun w => rNot_any k yes neg c s t day pl pn nl cl nn cn w)
  have HN2 := Lib.hid (fun w => rNot_any k' yes' neg' c' s' t' day' pl' pn' nl' cl' nn' cn' w)
  have HN3 := Lib.hid (fun k yes w => rNot_any' k yes w)
  have HA := Lib.hid (fun (p q : P3) w => rAnd_any (tvV p) (tvV q) 0 w _ _ (tv_at p 0 w) (tv_at q 0 w) (Nat.zero_le _))
  unfold V.tri
  rw [hk, hy, hk', hy']
  clear hx hx' hk hy hk' hy'
  go_enter Tryz.func42, Tryz.ntmps42
  go_wp2
  go_region_held3 (fun w' => w'.cell? ⟨w.heap.size, 0, none⟩ = some (.int .i64 k) ∧ w'.cell? ⟨w.heap.size, 1, none⟩ = some (.bool yes) ∧ w'.cell? ⟨w.heap.size, 2, none⟩ = some (.bool neg) ∧ w'.cell? ⟨w.heap.size, 3, none⟩ = some (.int .u64 (hi c : Int)) ∧ w'.cell? ⟨w.heap.size, 4, none⟩ = some (.int .u64 (lo c : Int)) ∧ w'.cell? ⟨w.heap.size, 5, none⟩ = some (.int .i64 s) ∧ w'.cell? ⟨w.heap.size, 6, none⟩ = some (.string t) ∧ w'.cell? ⟨w.heap.size, 7, none⟩ = some (.int .i64 day) ∧ w'.cell? ⟨w.heap.size, 8, none⟩ = some (.slice pl nl cl) ∧ w'.cell? ⟨w.heap.size, 9, none⟩ = some (.slice pn nn cn) ∧
      w'.cell? ⟨w.heap.size + 1, 0, none⟩ = some (.int .i64 k') ∧ w'.cell? ⟨w.heap.size + 1, 1, none⟩ = some (.bool yes') ∧ w'.cell? ⟨w.heap.size + 1, 2, none⟩ = some (.bool neg') ∧ w'.cell? ⟨w.heap.size + 1, 3, none⟩ = some (.int .u64 (hi c' : Int)) ∧ w'.cell? ⟨w.heap.size + 1, 4, none⟩ = some (.int .u64 (lo c' : Int)) ∧ w'.cell? ⟨w.heap.size + 1, 5, none⟩ = some (.int .i64 s') ∧ w'.cell? ⟨w.heap.size + 1, 6, none⟩ = some (.string t') ∧ w'.cell? ⟨w.heap.size + 1, 7, none⟩ = some (.int .i64 day') ∧ w'.cell? ⟨w.heap.size + 1, 8, none⟩ = some (.slice pl' nl' cl') ∧ w'.cell? ⟨w.heap.size + 1, 9, none⟩ = some (.slice pn' nn' cn')) (first | (simp [go_sem]; done) | go_keep) (first
    | (go_at_call 44; ((with_reducible refine (HN1.out _).mono ?_); rintro e w1 ⟨rfl, hb1⟩; obtain ⟨osB, dB, rfl⟩ := ext_of_below hb1; clear hb1))
    | (go_at_call 44; ((with_reducible refine (HN2.out _).mono ?_); rintro e w1 ⟨rfl, hb1⟩; obtain ⟨osC, dC, rfl⟩ := ext_of_below hb1; clear hb1))
    | (go_at_call 40; ((with_reducible refine (HA.out (notK k, notY k yes) (notK k', notY k' yes') _).mono ?_); rintro e w1 ⟨rfl, hb1⟩; obtain ⟨osD, dD, rfl⟩ := ext_of_below hb1; clear hb1))
    | (go_at_call 44; ((with_reducible refine (HN3.out _ _ _).mono ?_); rintro e w1 ⟨rfl, hb1⟩; obtain ⟨osE, dE, rfl⟩ := ext_of_below hb1; clear hb1)))
  all_goals
    go_wp2
    go_returns
    exact ⟨rfl, by (repeat' (first | (with_reducible exact Below.refl _ _) | (with_reducible assumption) | (with_reducible refine Below.alloc ?_ ?_ _) | (with_reducible refine below_drewN ?_ _) | (with_reducible refine below_drew ?_) | (with_reducible refine below_ext ?_ ?_ _ _) | (with_reducible refine Below.setCell ?_ ?_ _) | (simp; done) | (simp; omega) | omega))⟩
theorem two_any (v v' : V) (n : Nat) (w : World) (x x' : Value) (hx : v.At n w x) (hx' : v'.At n w x') (hnw : n ≤ w.heap.size) :
    Calls Tryz.prog 33 #[x, x'] w fun e w' => e = .returned (.int .i64 (code2 v v')) ∧ Below w.heap.size w w' := by
  have HA := Lib.hid (fun w' (hb : Below w.heap.size w w') => rcheck_any v n w' x (hx.below (hb.mono hnw)) (Nat.le_trans hnw hb.size))
  have HB := Lib.hid (fun w' (hb : Below w.heap.size w w') => rcheck_any v' n w' x' (hx'.below (hb.mono hnw)) (Nat.le_trans hnw hb.size))
  obtain ⟨k, yes, neg, c, s, t, day, pl, nl, cl, pn, nn, cn, rfl, -, -⟩ := at_shape hx
  obtain ⟨k', yes', neg', c', s', t', day', pl', nl', cl', pn', nn', cn', rfl, -, -⟩ := at_shape hx'
  unfold code2
  generalize v.code = a at *
  generalize v'.code = b at *
  clear hx hx'
  by_cases h0 : a = 0
  · subst h0
    rw [if_pos rfl]
    go_enter Tryz.func33, Tryz.ntmps33
    go_wp2_with (first
      | (go_at_call 9; ((with_reducible refine (HA.out _ (by (repeat' (first | (with_reducible exact Below.refl _ _) | (with_reducible assumption) | (with_reducible refine Below.alloc ?_ ?_ _) | (with_reducible refine below_drewN ?_ _) | (with_reducible refine below_drew ?_) | (with_reducible refine below_ext ?_ ?_ _ _) | (with_reducible refine Below.setCell ?_ ?_ _) | (simp; done) | (simp; omega) | omega)))).mono ?_); rintro e w1 ⟨rfl, hb1⟩; obtain ⟨osA, dA, rfl⟩ := ext_of_below hb1; clear hb1))
      | (go_at_call 9; ((with_reducible refine (HB.out _ (by (repeat' (first | (with_reducible exact Below.refl _ _) | (with_reducible assumption) | (with_reducible refine Below.alloc ?_ ?_ _) | (with_reducible refine below_drewN ?_ _) | (with_reducible refine below_drew ?_) | (with_reducible refine below_ext ?_ ?_ _ _) | (with_reducible refine Below.setCell ?_ ?_ _) | (simp; done) | (simp; omega) | omega)))).mono ?_); rintro e w1 ⟨rfl, hb1⟩; obtain ⟨osB, dB, rfl⟩ := ext_of_below hb1; clear hb1)))
    go_ret
    exact ⟨rfl, by (repeat' (first | (with_reducible exact Below.refl _ _) | (with_reducible assumption) | (with_reducible refine Below.alloc ?_ ?_ _) | (with_reducible refine below_drewN ?_ _) | (with_reducible refine below_drew ?_) | (with_reducible refine below_ext ?_ ?_ _ _) | (with_reducible refine Below.setCell ?_ ?_ _) | (simp; done) | (simp; omega) | omega))⟩
  · rw [if_neg h0]
    have h2 : (a == 0) = false := beq_eq_false_iff_ne.2 h0
    go_enter Tryz.func33, Tryz.ntmps33
    go_wp2_with (first
      | (go_at_call 9; ((with_reducible refine (HA.out _ (by (repeat' (first | (with_reducible exact Below.refl _ _) | (with_reducible assumption) | (with_reducible refine Below.alloc ?_ ?_ _) | (with_reducible refine below_drewN ?_ _) | (with_reducible refine below_drew ?_) | (with_reducible refine below_ext ?_ ?_ _ _) | (with_reducible refine Below.setCell ?_ ?_ _) | (simp; done) | (simp; omega) | omega)))).mono ?_); rintro e w1 ⟨rfl, hb1⟩; obtain ⟨osA, dA, rfl⟩ := ext_of_below hb1; clear hb1)))
    go_ret
    exact ⟨rfl, by (repeat' (first | (with_reducible exact Below.refl _ _) | (with_reducible assumption) | (with_reducible refine Below.alloc ?_ ?_ _) | (with_reducible refine below_drewN ?_ _) | (with_reducible refine below_drew ?_) | (with_reducible refine below_ext ?_ ?_ _ _) | (with_reducible refine Below.setCell ?_ ?_ _) | (simp; done) | (simp; omega) | omega))⟩
theorem docAnd_any (v v' : V) (n : Nat) (w : World) (x x' : Value) (hx : v.At n w x) (hx' : v'.At n w x') (hnw : n ≤ w.heap.size) :
    Calls Tryz.prog 17 #[x, x'] w fun e w' => e = .returned (.tuple #[TV (res3 (code2 v v') (and3 v.tri v'.tri)).1 (res3 (code2 v v') (and3 v.tri v'.tri)).2, .int .i64 (code2 v v')]) ∧ Below w.heap.size w w' := by
  have HA := Lib.hid (fun w' (hb : Below w.heap.size w w') => two_any v v' n w' x x' (hx.below (hb.mono hnw)) (hx'.below (hb.mono hnw)) (Nat.le_trans hnw hb.size))
  have HE := Lib.hid (fun w' (hb : Below w.heap.size w w') => rAnd_any v v' n w' x x' (hx.below (hb.mono hnw)) (hx'.below (hb.mono hnw)) (Nat.le_trans hnw hb.size))
  obtain ⟨k, yes, neg, c, s, t, day, pl, nl, cl, pn, nn, cn, rfl, -, -⟩ := at_shape hx
  obtain ⟨k', yes', neg', c', s', t', day', pl', nl', cl', pn', nn', cn', rfl, -, -⟩ := at_shape hx'
  unfold res3
  generalize code2 v v' = a at *
  generalize and3 v.tri v'.tri = q at *
  clear hx hx'
  by_cases h0 : a = 0
  · subst h0
    rw [if_pos rfl]
    go_enter Tryz.func17, Tryz.ntmps17
    go_wp2_with (first
      | (go_at_call 33; ((with_reducible refine (HA.out _ (by (repeat' (first | (with_reducible exact Below.refl _ _) | (with_reducible assumption) | (with_reducible refine Below.alloc ?_ ?_ _) | (with_reducible refine below_drewN ?_ _) | (with_reducible refine below_drew ?_) | (with_reducible refine below_ext ?_ ?_ _ _) | (with_reducible refine Below.setCell ?_ ?_ _) | (simp; done) | (simp; omega) | omega)))).mono ?_); rintro e w1 ⟨rfl, hb1⟩; obtain ⟨osA, dA, rfl⟩ := ext_of_below hb1; clear hb1))
      | (go_at_call 40; ((with_reducible refine (HE.out _ (by (repeat' (first | (with_reducible exact Below.refl _ _) | (with_reducible assumption) | (with_reducible refine Below.alloc ?_ ?_ _) | (with_reducible refine below_drewN ?_ _) | (with_reducible refine below_drew ?_) | (with_reducible refine below_ext ?_ ?_ _ _) | (with_reducible refine Below.setCell ?_ ?_ _) | (simp; done) | (simp; omega) | omega)))).mono ?_); rintro e w1 ⟨rfl, hb1⟩; obtain ⟨osB, dB, rfl⟩ := ext_of_below hb1; clear hb1)))
    go_returns
    exact ⟨rfl, by (repeat' (first | (with_reducible exact Below.refl _ _) | (with_reducible assumption) | (with_reducible refine Below.alloc ?_ ?_ _) | (with_reducible refine below_drewN ?_ _) | (with_reducible refine below_drew ?_) | (with_reducible refine below_ext ?_ ?_ _ _) | (with_reducible refine Below.setCell ?_ ?_ _) | (simp; done) | (simp; omega) | omega))⟩
  · rw [if_neg h0]
    have h2 := bneF (beq_eq_false_iff_ne.2 h0)
    clear HE
    go_enter Tryz.func17, Tryz.ntmps17
    go_wp2_with (first
      | (go_at_call 33; ((with_reducible refine (HA.out _ (by (repeat' (first | (with_reducible exact Below.refl _ _) | (with_reducible assumption) | (with_reducible refine Below.alloc ?_ ?_ _) | (with_reducible refine below_drewN ?_ _) | (with_reducible refine below_drew ?_) | (with_reducible refine below_ext ?_ ?_ _ _) | (with_reducible refine Below.setCell ?_ ?_ _) | (simp; done) | (simp; omega) | omega)))).mono ?_); rintro e w1 ⟨rfl, hb1⟩; obtain ⟨osA, dA, rfl⟩ := ext_of_below hb1; clear hb1)))
    go_returns
    exact ⟨rfl, by (repeat' (first | (with_reducible exact Below.refl _ _) | (with_reducible assumption) | (with_reducible refine Below.alloc ?_ ?_ _) | (with_reducible refine below_drewN ?_ _) | (with_reducible refine below_drew ?_) | (with_reducible refine below_ext ?_ ?_ _ _) | (with_reducible refine Below.setCell ?_ ?_ _) | (simp; done) | (simp; omega) | omega))⟩
theorem docOr_any (v v' : V) (n : Nat) (w : World) (x x' : Value) (hx : v.At n w x) (hx' : v'.At n w x') (hnw : n ≤ w.heap.size) :
    Calls Tryz.prog 19 #[x, x'] w fun e w' => e = .returned (.tuple #[TV (res3 (code2 v v') (or3 v.tri v'.tri)).1 (res3 (code2 v v') (or3 v.tri v'.tri)).2, .int .i64 (code2 v v')]) ∧ Below w.heap.size w w' := by
  have HA := Lib.hid (fun w' (hb : Below w.heap.size w w') => two_any v v' n w' x x' (hx.below (hb.mono hnw)) (hx'.below (hb.mono hnw)) (Nat.le_trans hnw hb.size))
  have HE := Lib.hid (fun w' (hb : Below w.heap.size w w') => rOr_any v v' n w' x x' (hx.below (hb.mono hnw)) (hx'.below (hb.mono hnw)) (Nat.le_trans hnw hb.size))
  obtain ⟨k, yes, neg, c, s, t, day, pl, nl, cl, pn, nn, cn, rfl, -, -⟩ := at_shape hx
  obtain ⟨k', yes', neg', c', s', t', day', pl', nl', cl', pn', nn', cn', rfl, -, -⟩ := at_shape hx'
  unfold res3
  generalize code2 v v' = a at *
  generalize or3 v.tri v'.tri = q at *
  clear hx hx'
  by_cases h0 : a = 0
  · subst h0
    rw [if_pos rfl]
    go_enter Tryz.func19, Tryz.ntmps19
    go_wp2_with (first
      | (go_at_call 33; ((with_reducible refine (HA.out _ (by (repeat' (first | (with_reducible exact Below.refl _ _) | (with_reducible assumption) | (with_reducible refine Below.alloc ?_ ?_ _) | (with_reducible refine below_drewN ?_ _) | (with_reducible refine below_drew ?_) | (with_reducible refine below_ext ?_ ?_ _ _) | (with_reducible refine Below.setCell ?_ ?_ _) | (simp; done) | (simp; omega) | omega)))).mono ?_); rintro e w1 ⟨rfl, hb1⟩; obtain ⟨osA, dA, rfl⟩ := ext_of_below hb1; clear hb1))
      | (go_at_call 42; ((with_reducible refine (HE.out _ (by (repeat' (first | (with_reducible exact Below.refl _ _) | (with_reducible assumption) | (with_reducible refine Below.alloc ?_ ?_ _) | (with_reducible refine below_drewN ?_ _) | (with_reducible refine below_drew ?_) | (with_reducible refine below_ext ?_ ?_ _ _) | (with_reducible refine Below.setCell ?_ ?_ _) | (simp; done) | (simp; omega) | omega)))).mono ?_); rintro e w1 ⟨rfl, hb1⟩; obtain ⟨osB, dB, rfl⟩ := ext_of_below hb1; clear hb1)))
    go_returns
    exact ⟨rfl, by (repeat' (first | (with_reducible exact Below.refl _ _) | (with_reducible assumption) | (with_reducible refine Below.alloc ?_ ?_ _) | (with_reducible refine below_drewN ?_ _) | (with_reducible refine below_drew ?_) | (with_reducible refine below_ext ?_ ?_ _ _) | (with_reducible refine Below.setCell ?_ ?_ _) | (simp; done) | (simp; omega) | omega))⟩
  · rw [if_neg h0]
    have h2 := bneF (beq_eq_false_iff_ne.2 h0)
    clear HE
    go_enter Tryz.func19, Tryz.ntmps19
    go_wp2_with (first
      | (go_at_call 33; ((with_reducible refine (HA.out _ (by (repeat' (first | (with_reducible exact Below.refl _ _) | (with_reducible assumption) | (with_reducible refine Below.alloc ?_ ?_ _) | (with_reducible refine below_drewN ?_ _) | (with_reducible refine below_drew ?_) | (with_reducible refine below_ext ?_ ?_ _ _) | (with_reducible refine Below.setCell ?_ ?_ _) | (simp; done) | (simp; omega) | omega)))).mono ?_); rintro e w1 ⟨rfl, hb1⟩; obtain ⟨osA, dA, rfl⟩ := ext_of_below hb1; clear hb1)))
    go_returns
    exact ⟨rfl, by (repeat' (first | (with_reducible exact Below.refl _ _) | (with_reducible assumption) | (with_reducible refine Below.alloc ?_ ?_ _) | (with_reducible refine below_drewN ?_ _) | (with_reducible refine below_drew ?_) | (with_reducible refine below_ext ?_ ?_ _ _) | (with_reducible refine Below.setCell ?_ ?_ _) | (simp; done) | (simp; omega) | omega))⟩
theorem docNot_any (v : V) (n : Nat) (w : World) (x : Value) (hx : v.At n w x) (hnw : n ≤ w.heap.size) :
    Calls Tryz.prog 21 #[x] w fun e w' => e = .returned (.tuple #[TV (res3 v.code (not3 v.tri)).1 (res3 v.code (not3 v.tri)).2, .int .i64 v.code]) ∧ Below w.heap.size w w' := by
  have HA := Lib.hid (fun w' (hb : Below w.heap.size w w') => rcheck_any v n w' x (hx.below (hb.mono hnw)) (Nat.le_trans hnw hb.size))
  obtain ⟨k, yes, neg, c, s, t, day, pl, nl, cl, pn, nn, cn, rfl, hk, hy⟩ := at_shape hx
  have HN := Lib.hid (fun w => rNot_any k yes neg c s t day pl pn nl cl nn cn w)
  unfold V.tri
  rw [hk, hy]
  unfold res3 not3
  generalize v.code = a at *
  clear hx hk hy
  by_cases h0 : a = 0
  · subst h0
    rw [if_pos rfl]
    go_enter Tryz.func21, Tryz.ntmps21
    go_wp2_with (first
      | (go_at_call 9; ((with_reducible refine (HA.out _ (by (repeat' (first | (with_reducible exact Below.refl _ _) | (with_reducible assumption) | (with_reducible refine Below.alloc ?_ ?_ _) | (with_reducible refine below_drewN ?_ _) | (with_reducible refine below_drew ?_) | (with_reducible refine below_ext ?_ ?_ _ _) | (with_reducible refine Below.setCell ?_ ?_ _) | (simp; done) | (simp; omega) | omega)))).mono ?_); rintro e w1 ⟨rfl, hb1⟩; obtain ⟨osA, dA, rfl⟩ := ext_of_below hb1; clear hb1))
      | (go_at_call 44; ((with_reducible refine (HN.out _).mono ?_); rintro e w1 ⟨rfl, hb1⟩; obtain ⟨osB, dB, rfl⟩ := ext_of_below hb1; clear hb1)))
    go_returns
    exact ⟨rfl, by (repeat' (first | (with_reducible exact Below.refl _ _) | (with_reducible assumption) | (with_reducible refine Below.alloc ?_ ?_ _) | (with_reducible refine below_drewN ?_ _) | (with_reducible refine below_drew ?_) | (with_reducible refine below_ext ?_ ?_ _ _) | (with_reducible refine Below.setCell ?_ ?_ _) | (simp; done) | (simp; omega) | omega))⟩
  · rw [if_neg h0]
    have h2 := bneF (beq_eq_false_iff_ne.2 h0)
    go_enter Tryz.func21, Tryz.ntmps21
    go_wp2_with (first
      | (go_at_call 9; ((with_reducible refine (HA.out _ (by (repeat' (first | (with_reducible exact Below.refl _ _) | (with_reducible assumption) | (with_reducible refine Below.alloc ?_ ?_ _) | (with_reducible refine below_drewN ?_ _) | (with_reducible refine below_drew ?_) | (with_reducible refine below_ext ?_ ?_ _ _) | (with_reducible refine Below.setCell ?_ ?_ _) | (simp; done) | (simp; omega) | omega)))).mono ?_); rintro e w1 ⟨rfl, hb1⟩; obtain ⟨osA, dA, rfl⟩ := ext_of_below hb1; clear hb1)))
    go_returns
    exact ⟨rfl, by (repeat' (first | (with_reducible exact Below.refl _ _) | (with_reducible assumption) | (with_reducible refine Below.alloc ?_ ?_ _) | (with_reducible refine below_drewN ?_ _) | (with_reducible refine below_drew ?_) | (with_reducible refine below_ext ?_ ?_ _ _) | (with_reducible refine Below.setCell ?_ ?_ _) | (simp; done) | (simp; omega) | omega))⟩
end Go.Proofs.YtfffjbnbhmohjaaGreatDoor
