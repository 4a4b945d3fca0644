/-
  Equality of two lists, of two contexts, of two values: the program's way.
-/
import Derived.Test.YtfffjbnbhmohjaaGreatDoorBh
import Derived.Test.YtfffjbnbhmohjaaGreatDoorValJ
import Derived.Maps.OwnSet
namespace Go.Proofs.YtfffjbnbhmohjaaGreatDoor
open Go.RowKit Word Txt
attribute [local go_sem] setCell_drewN cell?_ext frozen?_ext shape?_ext setCell_ext lt_1' ne_1' en_1' le_1' lt_2' ne_2' en_2' le_2' lt_3' ne_3' en_3' le_3' lt_4' ne_4' en_4' le_4' lt_5' ne_5' en_5' le_5' lt_6' ne_6' en_6' le_6' lt_7' ne_7' en_7' le_7' lt_8' ne_8' en_8' le_8' lt_9' ne_9' en_9' le_9' lt_10' ne_10' en_10' le_10' lt_11' ne_11' en_11' le_11' lt_12' ne_12' en_12' le_12'

theorem ext_here (w : World) : w = ext w #[] w.drawn := by simp [ext]
theorem tv_pair (p : P3) : TV p.1 p.2 = TV p.1 p.2 := rfl
/-- the contract of equal, at a value -/
def EC (v : V) : Prop := ∀ (n : Nat) (w : World) (x : Value) (v' : V) (x' : Value), v.At n w x → v'.At n w x' → n ≤ w.heap.size → v.form = true → v'.form = true →
  Calls Tryz.prog 36 #[x, x'] w fun e w' => e = .returned (TV (v.eq3 v').1 (v.eq3 v').2) ∧ Below w.heap.size w w'
theorem and3_any' (k : Int) (yes : Bool) (k' : Int) (yes' : Bool) (w : World) : Calls Tryz.prog 41 #[TV k yes, TV k' yes'] w fun e w' => e = .returned (TV (and3 (k, yes) (k', yes')).1 (and3 (k, yes) (k', yes')).2) ∧ Below w.heap.size w w' :=
  and3_any k yes false 0 0 ⟨#[]⟩ 0 none none 0 0 0 0 k' yes' false 0 0 ⟨#[]⟩ 0 none none 0 0 0 0 w
set_option maxHeartbeats 8000000 in
set_option maxRecDepth 100000 in
theorem eqLists_any (n : Nat) (l l' : List V) (ih : ∀ v ∈ l, EC v) (w : World) (x y : Value) (hx : VSl n w l x) (hy : VSl n w l' y) (hl : l.length ≤ 1048576) (hnw : n ≤ w.heap.size) (hf : ∀ v ∈ l, v.form = true) (hf' : ∀ v ∈ l', v.form = true) :
    Calls Tryz.prog 59 #[x, y] w fun e w' => e = .returned (TV (if l.length = l'.length then eqL (1, true) l l' else (1, false)).1 (if l.length = l'.length then eqL (1, true) l l' else (1, false)).2) ∧ Below w.heap.size w w' := by
  have HTr := Lib.hid (fun b w => truth_any b w)
  obtain ⟨px, cx, ex⟩ := hx.shape
  obtain ⟨py, cy, ey⟩ := hy.shape
  by_cases hlen : l.length = l'.length
  · rw [if_pos hlen]
    have HX := Lib.hid (fun (i : Nat) (hi : i < l.length) (hi' : i < l'.length) w' (hb : Below w.heap.size w w') (x x' : Value) (h : l[i].At n w' x) (h' : l'[i].At n w' x') => ih l[i] (List.getElem_mem hi) n w' x l'[i] x' h h' (Nat.le_trans hnw hb.size) (hf _ (List.getElem_mem hi)) (hf' _ (List.getElem_mem hi')))
    have HD := Lib.hid (fun (p : P3) (m : Nat) (h : m < l.length) (h' : m < l'.length) => eqL_drop p l l' m h h')
    obtain ⟨tot, htot⟩ : ∃ tot, tot = eqL (1, true) l l' := ⟨_, rfl⟩
    rw [← htot]
    have HTOT := Lib.hid htot
    obtain ⟨len, hln⟩ : ∃ len, l.length = len := ⟨_, rfl⟩
    have HLN := Lib.hid hln
    have HLM := Lib.hid (show l'.length = len by rw [← hlen, hln])
    have HA3 := Lib.hid (fun k yes k' yes' w => and3_any' k yes k' yes' w)
    subst ex ey
    rw [hln] at hx hl ⊢
    rw [← hlen, hln] at hy ⊢
    have HA := Lib.hid hx
    have HB := Lib.hid hy
    clear hx hy hlen hln ih hf hf' htot
    go_enter Tryz.func59, Tryz.ntmps59
    go_wp2_with (first
      | (go_at_call 39; ((with_reducible refine (HTr.out _ _).mono ?_); rintro e w1 ⟨rfl, hb1⟩; obtain ⟨osA, dA, rfl⟩ := ext_of_below hb1; clear hb1)))
    go_loopw [16] (fun i wr => ∃ (m : Nat) (p : P3), m ≤ len ∧ i = .int .i64 m ∧ (∃ (os : Array Obj) (d : Nat), wr = ext ((ext (w.alloc (.cells #[.int .i64 0, .bool false, .bool false, .int .u64 0, .int .u64 0, .int .i64 0, .string ⟨#[]⟩, .int .i64 0, .slice none 0 0, .slice none 0 0] 30)) osA dA).alloc (.cells #[.int .i64 p.1, .bool p.2, .bool false, .int .u64 0, .int .u64 0, .int .i64 0, .string ⟨#[]⟩, .int .i64 0, .slice none 0 0, .slice none 0 0] 30)) os d) ∧ eqL p (l.drop m) (l'.drop m) = tot) (fun i _ => len - (intOf i).toNat)
    case atStart => exact ⟨0, (1, true), by omega, rfl, ⟨_, _, ext_here _⟩, by rw [HTOT.out]; rfl⟩
    case round =>
      obtain ⟨m, ⟨pk, py'⟩, hm, rfl, ⟨osR, dR, rfl⟩, hs0⟩ := hrel
      have HS := Lib.hid hs0
      clear hs0
      by_cases hml : m < len
      · have hi : (m : Int) < len := by omega
        have h1 : m < l.length := by have := HLN.out; omega
        have h2 : m < l'.length := by have := HLM.out; omega
        obtain ⟨g, o, rfl, hg, hr⟩ : ∃ g o, px = some ⟨g, o, none⟩ ∧ g < w.heap.size ∧ RowAt n w g l o := by
          rcases HA.out with ⟨h, _⟩ | ⟨g, o, cap, h, _, hg, hr⟩
          · rw [h] at h1; simp at h1
          · simp only [Value.slice.injEq] at h; exact ⟨g, o, h.1, hg, hr⟩
        obtain ⟨g', o', rfl, hg', hr'⟩ : ∃ g o, py = some ⟨g, o, none⟩ ∧ g < w.heap.size ∧ RowAt n w g l' o := by
          rcases HB.out with ⟨h, _⟩ | ⟨g, o, cap, h, _, hg, hr⟩
          · rw [h] at h2; simp at h2
          · simp only [Value.slice.injEq] at h; exact ⟨g, o, h.1, hg, hr⟩
        obtain ⟨k1, yes1, neg1, a1, b1, s1, t1, day1, pl1, nl1, cl1, pn1, nn1, cn1, u0, u1, u2, u3, u4, u5, u6, u7, u8, u9, hat1⟩ := hr.elem m h1
        obtain ⟨k2, yes2, neg2, a2, b2, s2, t2, day2, pl2, nl2, cl2, pn2, nn2, cn2, z0, z1, z2, z3, z4, z5, z6, z7, z8, z9, hat2⟩ := hr'.elem m h2
        have HE := Lib.hid (fun w' (hb2 : Below w.heap.size w w') => HX.out m h1 h2 w' hb2 _ _ (hat1.below (hb2.mono hnw)) (hat2.below (hb2.mono hnw)))
        obtain ⟨q, hq⟩ : ∃ q, q = l[m].eq3 l'[m] := ⟨_, rfl⟩
        rw [← hq] at HE
        have HN := Lib.hid (show eqL (and3 (pk, py') q) (l.drop (m + 1)) (l'.drop (m + 1)) = tot by rw [← HS.out, HD.out _ m h1 h2, hq])
        obtain ⟨qk, qy⟩ := q
        have hg1 : g < w.heap.size + 1 := by omega
        have hg2 : g < w.heap.size + 1 + osA.size := by omega
        have hg3 : g < w.heap.size + 1 + osA.size + 1 := by omega
        have hg1' : g' < w.heap.size + 1 := by omega
        have hg2' : g' < w.heap.size + 1 + osA.size := by omega
        have hg3' : g' < w.heap.size + 1 + osA.size + 1 := by omega
        clear hat1 hat2 hq HX hr hr' HA HB
        go_wp2
        go_region_with (first
          | (go_at_call 36; ((with_reducible refine (HE.out _ (by (repeat' (first | (with_reducible exact Below.refl _ _) | (with_reducible assumption) | (with_reducible refine Below.alloc ?_ ?_ _) | (with_reducible refine below_drewN ?_ _) | (with_reducible refine below_drew ?_) | (with_reducible refine below_ext ?_ ?_ _ _) | (with_reducible refine Below.setCell ?_ ?_ _) | (simp; done) | (simp; omega) | omega)))).mono ?_); rintro e w1 ⟨rfl, hb1⟩; obtain ⟨osB, dB, rfl⟩ := ext_of_below hb1; clear hb1))
          | (go_at_call 41; ((with_reducible refine (HA3.out _ _ _ _ _).mono ?_); rintro e w1 ⟨rfl, hb1⟩; obtain ⟨osC, dC, rfl⟩ := ext_of_below hb1; clear hb1)))
        all_goals
          go_wp2
          go_roundw
          case rel => exact ⟨m + 1, and3 (pk, py') (qk, qy), by omega, by go_num, ext_of_below (by (repeat' (first | (with_reducible exact Below.refl _ _) | (with_reducible assumption) | (with_reducible refine Below.alloc ?_ ?_ _) | (with_reducible refine below_drewN ?_ _) | (with_reducible refine below_drew ?_) | (with_reducible refine below_ext ?_ ?_ _ _) | (with_reducible refine Below.setCell ?_ ?_ _) | (simp; done) | (simp; omega) | omega))), HN.out⟩
          case measure => simp [intOf]; omega
      · obtain rfl : m = len := by omega
        have hi : ¬ (m : Int) < m := by omega
        have HR := Lib.hid (show tot = (pk, py') by
          rw [← HS.out, ← HLN.out, List.drop_length, eqL_nil])
        go_wp2
        go_returns
        exact ⟨by rw [HR.out], by (repeat' (first | (with_reducible exact Below.refl _ _) | (with_reducible assumption) | (with_reducible refine Below.alloc ?_ ?_ _) | (with_reducible refine below_drewN ?_ _) | (with_reducible refine below_drew ?_) | (with_reducible refine below_ext ?_ ?_ _ _) | (with_reducible refine Below.setCell ?_ ?_ _) | (simp; done) | (simp; omega) | omega))⟩
  · rw [if_neg hlen]
    have hne : ((l.length : Int) != (l'.length : Int)) = true := by simp [bne]; omega
    subst ex ey
    generalize l.length = a at *
    generalize l'.length = b at *
    clear hx hy ih hf hf'
    go_enter Tryz.func59, Tryz.ntmps59
    go_wp2_with (first
      | (go_at_call 39; ((with_reducible refine (HTr.out _ _).mono ?_); rintro e w1 ⟨rfl, hb1⟩; obtain ⟨osA, dA, rfl⟩ := ext_of_below hb1; clear hb1)))
    go_returns
    exact ⟨rfl, by (repeat' (first | (with_reducible exact Below.refl _ _) | (with_reducible assumption) | (with_reducible refine Below.alloc ?_ ?_ _) | (with_reducible refine below_drewN ?_ _) | (with_reducible refine below_drew ?_) | (with_reducible refine below_ext ?_ ?_ _ _) | (with_reducible refine Below.setCell ?_ ?_ _) | (simp; done) | (simp; omega) | omega))⟩
end Go.Proofs.YtfffjbnbhmohjaaGreatDoor
