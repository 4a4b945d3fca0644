/-
  The lexer's sign, name, number, date: each told.
-/
import Derived.Test.YtonajmngchfjeaaDoorLexB
import Derived.Test.YtonajmngchfjeaaDoorBb
namespace Go.Proofs.YtonajmngchfjeaaDoor
open Go.RowKit Word
open Lx (Tok)
attribute [local go_sem] setCell_drewN cell?_ext frozen?_ext shape?_ext setCell_ext lt_1' ne_1' en_1' le_1' lt_2' ne_2' en_2' le_2' lt_3' ne_3' en_3' le_3' lt_4' ne_4' en_4' le_4' lt_5' ne_5' en_5' le_5' lt_6' ne_6' en_6' le_6' lt_7' ne_7' en_7' le_7' lt_8' ne_8' en_8' le_8' lt_9' ne_9' en_9' le_9' lt_10' ne_10' en_10' le_10' lt_11' ne_11' en_11' le_11' lt_12' ne_12' en_12' le_12'

theorem lxClone_any (s : ByteArray) (hs : s.size ≤ 140737488351232) (w : World) :
    Calls Tryd.prog 22 #[.string s] w fun e w' => e = .returned (.string s) ∧ Below w.heap.size w w' := by
  have hC := Tryd.stringslite_Clone s w (by omega)
  have HC := Lib.hid hC
  clear hC
  go_enter Tryd.func22, Tryd.ntmps22
  go_wp2_with (go_at_call 27; ((with_reducible refine (HC.out).mono ?_); rintro e w1 ⟨rfl, hb1⟩; obtain ⟨osA, dA, rfl⟩ := ext_of_below hb1; clear hb1))
  go_ret
  exact ⟨rfl, by (repeat' (first | (with_reducible exact Below.refl _ _) | (with_reducible assumption) | (with_reducible refine Below.alloc ?_ ?_ _) | (with_reducible refine below_drewN ?_ _) | (with_reducible refine below_drew ?_) | (with_reducible refine below_ext ?_ ?_ _ _) | (with_reducible refine Below.setCell ?_ ?_ _) | (simp; done) | (simp; omega) | omega))⟩
theorem bsz (l : List UInt8) : (⟨l.toArray⟩ : ByteArray).size = l.length := by show l.toArray.size = _; simp
theorem lx_ne {s : ByteArray} (h : 0 < s.size) : s.toList.isEmpty = false ∧ ¬ s.toList = [] := by
  have e : s.toList = s.data.toList := ByteArray.toList_eq ..
  have hz : s.data.toList.length = s.size := rfl
  have hn : ¬ s.toList = [] := fun h0 => by rw [e] at h0; rw [h0] at hz; simp at hz; omega
  exact ⟨by cases hl : s.toList with | nil => exact absurd hl hn | cons => rfl, hn⟩
theorem lx_no {s : ByteArray} (h : s.size = 0) : s.toList.isEmpty = true ∧ s.toList = [] := by
  have e : s.toList = s.data.toList := ByteArray.toList_eq ..
  have : s.toList = [] := by rw [e]; exact List.eq_nil_of_length_eq_zero (show s.data.toList.length = 0 from h)
  exact ⟨by rw [this]; rfl, this⟩
theorem hi_nought : (0 : Int) = ((hi 0 : Nat) : Int) := by unfold hi; rfl
theorem lo_nought : (0 : Int) = ((lo 0 : Nat) : Int) := by unfold lo; rfl
theorem tell_lit {W0 : World} {p : Nat} {s : ByteArray} {a b : Nat} {lv : Value} {ts : List Tok} {ov fr : Bool} (kind : Int) (text : List UInt8) (neg : Bool) (c : Nat) (x y : Int) (hx : x = ((hi c : Nat) : Int)) (hy : y = ((lo c : Nat) : Int)) (sc day : Int) (hl : ts.length ≤ 2000) (w : World) (hR : Rdr W0 w p s a b lv ts ov fr) :
    Calls Tryd.prog 21 #[.pointer (some ⟨p, 0, none⟩), .agg #[.int .i64 kind, .string ⟨text.toArray⟩, .bool neg, .int .u64 x, .int .u64 y, .int .i64 sc, .int .i64 day, .int .i64 0]] w
      fun e w' => e = .returned (.tuple #[]) ∧ ∃ lv', Rdr W0 w' p s a b lv' (ts ++ [⟨kind, text, neg, c, sc, day, b⟩]) ov fr := by
  subst hx hy
  exact tell_any ⟨kind, text, neg, c, sc, day, 0⟩ hl w hR
def signTok (l : List UInt8) : Tok := ⟨6, l.take (Lx.sigLen l), false, 0, 0, 0, 0⟩
set_option maxRecDepth 100000 in
set_option maxHeartbeats 8000000 in
theorem lxSign_any {W0 : World} {p : Nat} {s : ByteArray} {a b : Nat} {lv : Value} {ts : List Tok} {ov fr : Bool} (hs : s.size ≤ 1000) (ha : a ≤ s.size) (hl : ts.length ≤ 2000) (w : World) (hR : Rdr W0 w p s a b lv ts ov fr) :
    Calls Tryd.prog 15 #[.pointer (some ⟨p, 0, none⟩)] w fun e w' => e = .returned (.bool (decide (Lx.sigLen (s.data.toList.drop a) ≠ 0))) ∧
      ∃ lv', Rdr W0 w' p s (a + Lx.sigLen (s.data.toList.drop a)) b lv' (ts ++ [{ signTok (s.data.toList.drop a) with at_ := b }]) ov fr := by
  have c0 := hR.c0; have c1 := hR.c1
  have f1 := hR.free 1 (by decide)
  have k1 := lx_slice_from s (a : Int) a rfl ha
  obtain ⟨Y, hY⟩ : ∃ Y, Y = s.extract a s.size := ⟨_, rfl⟩
  have hz : s.data.toList.length = s.size := rfl
  have hYl : Y.data.toList = s.data.toList.drop a := by rw [hY, ext_list, List.take_of_length_le (by rw [List.length_drop]; omega)]
  rw [← hY] at k1
  have hYz : Y.size ≤ 1000 := by
    have : Y.data.toList.length = Y.size := rfl
    rw [hYl, List.length_drop] at this; omega
  have hsy := fun w => symbol_any Y (by omega) w
  rw [hYl] at hsy
  have hsl := Lx.sigLen_le (s.data.toList.drop a)
  rw [List.length_drop] at hsl
  obtain ⟨k, hk⟩ : ∃ k, k = Lx.sigLen (s.data.toList.drop a) := ⟨_, rfl⟩
  obtain ⟨X, hX⟩ : ∃ X : ByteArray, X = ⟨((s.data.toList.drop a).take k).toArray⟩ := ⟨_, rfl⟩
  have hXz : X.size = k := by rw [hX, bsz, List.length_take, List.length_drop]; omega
  rw [← hk] at hsy hsl ⊢
  rw [← hX] at hsy
  have HS := Lib.hid (fun w => (hsy w).mono fun _ _ (h : _ ∧ _) => (⟨h.1, h.2.symm⟩ : _ ∧ _))
  obtain ⟨t, ht⟩ : ∃ t, t = signTok (s.data.toList.drop a) := ⟨_, rfl⟩
  rw [← ht]
  have hTK : ∀ w, Rdr W0 w p s (a + k) b lv ts ov fr → Calls Tryd.prog 21 #[.pointer (some ⟨p, 0, none⟩), .agg #[.int .i64 6, .string X, .bool false, .int .u64 0, .int .u64 0, .int .i64 0, .int .i64 0, .int .i64 0]] w
      fun e w' => e = .returned (.tuple #[]) ∧ ∃ lv', Rdr W0 w' p s (a + k) b lv' (ts ++ [{ t with at_ := b }]) ov fr := fun w h => by
    rw [ht, hX]
    unfold signTok
    rw [← hk]
    exact tell_lit 6 _ false 0 0 0 hi_nought lo_nought 0 0 hl w h
  have HTK := Lib.hid hTK
  have HR := Lib.hid hR
  have hk2 : k ≤ 1000 := by omega
  have ha2 : a ≤ 1000 := by omega
  have hXi : (X.size : Int) = (k : Int) := by omega
  have HXI := Lib.hid hXi
  clear hR hsy hk hX hY hYl hz ht hXi hTK
  by_cases h0 : k = 0
  · obtain ⟨n1, n2⟩ := lx_no (s := X) (by omega)
    rw [decide_eq_false (show ¬ k ≠ 0 from fun h => h h0)]
    go_enter Tryd.func15, Tryd.ntmps15
    go_wp2
    go_quiet ((go_at_call 20; exact Calls.quiet_of_same (HS.out _)))
    go_wp2_with (first
      | (go_at_call 22; ((with_reducible refine (lxClone_any X (by omega) _).mono ?_); rintro e w1 ⟨rfl, hb1⟩; have R1 := Lib.hid (((HR.out.drew _).at_ (a + k) (by have := HXI.out; omega)).later hb1); clear hb1))
      | (go_at_call 21; ((with_reducible refine (HTK.out _ R1.out).mono ?_); rintro e w2 ⟨rfl, lv2, R2⟩; have R3 := Lib.hid R2; clear R2)))
    go_ret
    exact ⟨rfl, _, R3.out⟩
  · obtain ⟨n1, n2⟩ := lx_ne (s := X) (by omega)
    rw [decide_eq_true (show k ≠ 0 from h0)]
    go_enter Tryd.func15, Tryd.ntmps15
    go_wp2
    go_quiet ((go_at_call 20; exact Calls.quiet_of_same (HS.out _)))
    go_wp2_with (first
      | (go_at_call 22; ((with_reducible refine (lxClone_any X (by omega) _).mono ?_); rintro e w1 ⟨rfl, hb1⟩; have R1 := Lib.hid (((HR.out.drew _).at_ (a + k) (by have := HXI.out; omega)).later hb1); clear hb1))
      | (go_at_call 21; ((with_reducible refine (HTK.out _ R1.out).mono ?_); rintro e w2 ⟨rfl, lv2, R2⟩; have R3 := Lib.hid R2; clear R2)))
    go_ret
    exact ⟨rfl, _, R3.out⟩
end Go.Proofs.YtonajmngchfjeaaDoor
