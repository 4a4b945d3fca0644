/-
  The lexer's date: told.
-/
import Derived.Test.YtonajmngchfjeaaDoorLexE
namespace Go.Proofs.YtonajmngchfjeaaDoor
open Go.RowKit Word
open Lx (Tok)
attribute [local go_sem] setCell_drewN cell?_ext frozen?_ext shape?_ext setCell_ext lt_1' ne_1' en_1' le_1' lt_2' ne_2' en_2' le_2' lt_3' ne_3' en_3' le_3' lt_4' ne_4' en_4' le_4' lt_5' ne_5' en_5' le_5' lt_6' ne_6' en_6' le_6' lt_7' ne_7' en_7' le_7' lt_8' ne_8' en_8' le_8' lt_9' ne_9' en_9' le_9' lt_10' ne_10' en_10' le_10' lt_11' ne_11' en_11' le_11' lt_12' ne_12' en_12' le_12'

def dateTok (day : Int) (b : Nat) : Tok := ⟨3, [], false, 0, 0, day, b⟩
set_option maxRecDepth 100000 in
set_option maxHeartbeats 8000000 in
theorem date_told {W0 : World} {p : Nat} {s : ByteArray} {a b : Nat} {lv : Value} {ts : List Tok} {ov fr : Bool} (x : ByteArray) (day e : Int) (he : e = 0 ∨ e = 5 ∨ e = 17) (hl : ts.length ≤ 2000) (w : World) (hR : Rdr W0 w p s a b lv ts ov fr)
    (hP : ∀ w', Below w.heap.size w w' → Calls Tryd.prog 35 #[.string x] w' fun r w'' => r = .returned (.tuple #[.int .i64 day, .int .i64 e]) ∧ Below w'.heap.size w' w'') :
    Calls Tryd.prog 26 #[.pointer (some ⟨p, 0, none⟩), .string x] w fun r w' => r = .returned (.bool (decide (e ≠ 5))) ∧
      ∃ lv', Rdr W0 w' p s a b lv' (ts ++ [dateTok day b]) ov (fr || decide (e = 17)) := by
  have HP := Lib.hid hP
  have HR := Lib.hid hR
  have hTK : ∀ (fr' : Bool) w, Rdr W0 w p s a b lv ts ov fr' → Calls Tryd.prog 21 #[.pointer (some ⟨p, 0, none⟩), .agg #[.int .i64 3, .string { data := #[] }, .bool false, .int .u64 0, .int .u64 0, .int .i64 0, .int .i64 day, .int .i64 0]] w
      fun e w' => e = .returned (.tuple #[]) ∧ ∃ lv', Rdr W0 w' p s a b lv' (ts ++ [dateTok day b]) ov fr' := fun fr' w h => by
    unfold dateTok
    exact tell_lit 3 [] false 0 0 0 hi_nought lo_nought 0 day hl w h
  have HTK := Lib.hid hTK
  clear hTK hR hP
  rcases he with rfl | rfl | rfl
  all_goals
    cases fr
    all_goals
      go_enter Tryd.func26, Tryd.ntmps26
      go_wp2_with (first
        | (go_at_call 35; ((with_reducible refine (HP.out _ (by (repeat' (first | (with_reducible exact Below.refl _ _) | (with_reducible assumption) | (with_reducible refine Below.alloc ?_ ?_ _) | (with_reducible refine below_drewN ?_ _) | (with_reducible refine below_drew ?_) | (with_reducible refine below_ext ?_ ?_ _ _) | (with_reducible refine Below.setCell ?_ ?_ _) | (simp; done) | (simp; omega) | omega)))).mono ?_); rintro e w1 ⟨rfl, hb⟩; have R1 := Lib.hid (HR.out.later (show Below w.heap.size w w1 by (repeat' (first | (with_reducible exact Below.refl _ _) | (with_reducible assumption) | (with_reducible refine Below.alloc ?_ ?_ _) | (with_reducible refine below_drewN ?_ _) | (with_reducible refine below_drew ?_) | (with_reducible refine below_ext ?_ ?_ _ _) | (with_reducible refine Below.setCell ?_ ?_ _) | (simp; done) | (simp; omega) | omega)))); have c5 := R1.out.c5; have f5 := R1.out.free 5 (by decide); clear hb))
        | (go_at_call 21; ((with_reducible refine (HTK.out _ _ (R1.out.far _)).mono ?_); rintro e w2 ⟨rfl, lv2, R2⟩; have R3 := Lib.hid R2; clear R2)))
      go_ret
      exact ⟨rfl, _, R3.out⟩
end Go.Proofs.YtonajmngchfjeaaDoor
