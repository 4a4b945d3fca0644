/-
  The lexer's number and date: each told.
-/
import Derived.Test.YtonajmngchfjeaaDoorLexD
namespace Go.Proofs.YtonajmngchfjeaaDoor
open Go.RowKit Word
open Lx (Tok)
attribute [local go_sem] setCell_drewN cell?_ext frozen?_ext shape?_ext setCell_ext lt_1' ne_1' en_1' le_1' lt_2' ne_2' en_2' le_2' lt_3' ne_3' en_3' le_3' lt_4' ne_4' en_4' le_4' lt_5' ne_5' en_5' le_5' lt_6' ne_6' en_6' le_6' lt_7' ne_7' en_7' le_7' lt_8' ne_8' en_8' le_8' lt_9' ne_9' en_9' le_9' lt_10' ne_10' en_10' le_10' lt_11' ne_11' en_11' le_11' lt_12' ne_12' en_12' le_12'

theorem alloc_below (w : World) (o : Obj) : Below w.heap.size w (w.alloc o) := (Below.refl _ _).alloc (Nat.le_refl _) o
set_option maxRecDepth 100000 in
set_option maxHeartbeats 8000000 in
theorem number_told {W0 : World} {p : Nat} {s : ByteArray} {a b : Nat} {lv : Value} {ts : List Tok} {ov fr : Bool} (neg : Bool) (c : Nat) (sc e : Int) (he : e = 0 ∨ e = 3 ∨ e = 5) (ha : a ≤ s.size) (hba : b ≤ a) (hl : ts.length ≤ 2000) (w : World) (hR : Rdr W0 w p s a b lv ts ov fr)
    (hP : ∀ w, Calls Tryd.prog 23 #[.string ⟨(cutT s b a).toArray⟩] w fun x w' => x = .returned (.tuple #[D neg c sc, .int .i64 e]) ∧ Below w.heap.size w w') :
    Calls Tryd.prog 16 #[.pointer (some ⟨p, 0, none⟩)] w fun x w' => x = .returned (.bool (decide (e ≠ 5))) ∧
      ∃ lv', Rdr W0 w' p s a b lv' (ts ++ [⟨1, [], neg, c, sc, 0, b⟩]) (ov || decide (e = 3)) fr := by
  have c0 := hR.c0; have c1 := hR.c1; have c2 := hR.c2
  have hlt := hR.lt
  have k1 := lx_slice s (b : Int) (a : Int) b a rfl rfl hba ha
  obtain ⟨X, hX⟩ : ∃ X, X = s.extract b a := ⟨_, rfl⟩
  rw [← hX] at k1
  rw [cutT_is] at hX
  rw [← hX] at hP
  have HP := Lib.hid hP
  have HR := Lib.hid hR
  obtain ⟨x, hx⟩ : ∃ x, x = ((hi c : Nat) : Int) := ⟨_, rfl⟩
  obtain ⟨y, hy⟩ : ∃ y, y = ((lo c : Nat) : Int) := ⟨_, rfl⟩
  have HD : D neg c sc = .agg #[.bool neg, .int .u64 x, .int .u64 y, .int .i64 sc] := by rw [hx, hy]
  rw [HD] at HP
  have hTK : ∀ (ov' : Bool) w, Rdr W0 w p s a b lv ts ov' fr → Calls Tryd.prog 21 #[.pointer (some ⟨p, 0, none⟩), .agg #[.int .i64 1, .string { data := #[] }, .bool neg, .int .u64 x, .int .u64 y, .int .i64 sc, .int .i64 0, .int .i64 0]] w
      fun e w' => e = .returned (.tuple #[]) ∧ ∃ lv', Rdr W0 w' p s a b lv' (ts ++ [⟨1, [], neg, c, sc, 0, b⟩]) ov' fr := fun ov' w h => tell_lit 1 [] neg c x y hx hy sc 0 hl w h
  have HTK := Lib.hid hTK
  clear hX hTK hR hP hx hy HD
  have HC := Lib.hid (fun w' (hb : Below w.heap.size w w') => show w'.cell? ⟨p, 0, none⟩ = some (.string s) ∧ w'.cell? ⟨p, 1, none⟩ = some (.int .i64 (a : Int)) ∧ w'.cell? ⟨p, 2, none⟩ = some (.int .i64 (b : Int)) from
    ⟨((bcell hb).1 p 0 hlt).trans c0, ((bcell hb).1 p 1 hlt).trans c1, ((bcell hb).1 p 2 hlt).trans c2⟩)
  go_enter Tryd.func16, Tryd.ntmps16
  go_upto_region 1 with fail
  go_cut [3, 4] (fun s3 s4 wx => ∃ d, s3 = .pointer (some ⟨d, 0, none⟩) ∧ s4 = .int .i64 e ∧ Hid (Rdr W0 wx p s a b lv ts ov fr) ∧ d ≠ p ∧ wx.cell? ⟨d, 0, none⟩ = some (.bool neg) ∧ wx.cell? ⟨d, 1, none⟩ = some (.int .u64 x) ∧ wx.cell? ⟨d, 2, none⟩ = some (.int .u64 y) ∧ wx.cell? ⟨d, 3, none⟩ = some (.int .i64 sc))
  case first =>
    go_region_held3 (fun w' => w'.cell? ⟨p, 0, none⟩ = some (.string s) ∧ w'.cell? ⟨p, 1, none⟩ = some (.int .i64 (a : Int)) ∧ w'.cell? ⟨p, 2, none⟩ = some (.int .i64 (b : Int))) (exact HC.out _ (by (repeat' (first | (with_reducible exact Below.refl _ _) | (with_reducible assumption) | (with_reducible refine Below.alloc ?_ ?_ _) | (with_reducible refine below_drewN ?_ _) | (with_reducible refine below_drew ?_) | (with_reducible refine below_ext ?_ ?_ _ _) | (with_reducible refine Below.setCell ?_ ?_ _) | (simp; done) | (simp; omega) | omega)))) ((go_at_call 23; ((with_reducible refine (HP.out _).mono ?_); rintro e w1 ⟨rfl, hb1⟩; obtain ⟨osA, dA, rfl⟩ := ext_of_below hb1; clear hb1)))
    all_goals
      go_wp2_with fail
      go_meet
      case rel => exact ⟨_, rfl, rfl, Lib.hid (HR.out.later (by (repeat' (first | (with_reducible exact Below.refl _ _) | (with_reducible assumption) | (with_reducible refine Below.alloc ?_ ?_ _) | (with_reducible refine below_drewN ?_ _) | (with_reducible refine below_drew ?_) | (with_reducible refine below_ext ?_ ?_ _ _) | (with_reducible refine Below.setCell ?_ ?_ _) | (simp; done) | (simp; omega) | omega)))), by simp; omega, by simp [go_sem], by simp [go_sem], by simp [go_sem], by simp [go_sem]⟩
  case rest =>
    obtain ⟨d, rfl, rfl, R1, hdp, d0, d1, d2, d3⟩ := hcut
    have c4 := R1.out.c4
    have f4 := R1.out.free 4 (by decide)
    have hn1 := eq_false hdp
    have hn2 := eq_false (Ne.symm hdp)
    clear hdp
    rcases he with rfl | rfl | rfl
    all_goals
      cases ov
      all_goals
        go_wp2_with (go_at_call 21; ((with_reducible refine (HTK.out _ _ (R1.out.over _)).mono ?_); rintro e w2 ⟨rfl, lv2, R2⟩; have R3 := Lib.hid R2; clear R2))
        go_ret
        exact ⟨rfl, _, R3.out⟩
end Go.Proofs.YtonajmngchfjeaaDoor
