/-
  The lexer's name, number, date: each told.
-/
import Derived.Test.YtonajmngchfjeaaDoorLexC
import Derived.Test.YtonajmngchfjeaaDoorBj
import Derived.Test.YtonajmngchfjeaaDoorDecOne
import Derived.Test.YtonajmngchfjeaaDoorBf
namespace Go.Proofs.YtonajmngchfjeaaDoor
open Go.RowKit Word
open Lx (Tok)
attribute [local go_sem] setCell_drewN cell?_ext frozen?_ext shape?_ext setCell_ext lt_1' ne_1' en_1' le_1' lt_2' ne_2' en_2' le_2' lt_3' ne_3' en_3' le_3' lt_4' ne_4' en_4' le_4' lt_5' ne_5' en_5' le_5' lt_6' ne_6' en_6' le_6' lt_7' ne_7' en_7' le_7' lt_8' ne_8' en_8' le_8' lt_9' ne_9' en_9' le_9' lt_10' ne_10' en_10' le_10' lt_11' ne_11' en_11' le_11' lt_12' ne_12' en_12' le_12'

/-- what stands from b to a -/
def cutT (s : ByteArray) (b a : Nat) : List UInt8 := (s.data.toList.drop b).take (a - b)
theorem cutT_len {s : ByteArray} {b a : Nat} (h1 : b ≤ a) (h2 : a ≤ s.size) : (cutT s b a).length = a - b := by
  have hz : s.data.toList.length = s.size := rfl
  unfold cutT; rw [List.length_take, List.length_drop]; omega
theorem cutT_is (s : ByteArray) (b a : Nat) : s.extract b a = ⟨(cutT s b a).toArray⟩ := bs_of (ext_list s b a)
def nameTok (t : List UInt8) (b : Nat) : Tok := ⟨if isWord ⟨t.toArray⟩ = true then 5 else 4, t, false, 0, 0, 0, b⟩
set_option maxRecDepth 100000 in
set_option maxHeartbeats 8000000 in
theorem name_any' {W0 : World} {p : Nat} {s : ByteArray} {a b : Nat} {lv : Value} {ts : List Tok} {ov fr : Bool} (hs : s.size ≤ 1000) (ha : a ≤ s.size) (hba : b ≤ a) (hl : ts.length ≤ 2000) (w : World) (hR : Rdr W0 w p s a b lv ts ov fr) :
    Calls Tryd.prog 17 #[.pointer (some ⟨p, 0, none⟩)] w fun e w' => e = .returned (.bool (decide (a - b ≤ 64))) ∧
      ∃ lv', Rdr W0 w' p s a b lv' (ts ++ [nameTok (cutT s b a) b]) ov fr := by
  have c0 := hR.c0; have c1 := hR.c1; have c2 := hR.c2
  have hlt := hR.lt
  have k1 := lx_slice s (b : Int) (a : Int) b a rfl rfl hba ha
  obtain ⟨X, hX⟩ : ∃ X, X = s.extract b a := ⟨_, rfl⟩
  rw [← hX] at k1
  rw [cutT_is] at hX
  have hXz : X.size = a - b := by rw [hX, bsz, cutT_len hba ha]
  have HR := Lib.hid hR
  have hTK : ∀ (kind : Int) w, kind = (if isWord X = true then 5 else 4) → Rdr W0 w p s a b lv ts ov fr → Calls Tryd.prog 21 #[.pointer (some ⟨p, 0, none⟩), .agg #[.int .i64 kind, .string X, .bool false, .int .u64 0, .int .u64 0, .int .i64 0, .int .i64 0, .int .i64 0]] w
      fun e w' => e = .returned (.tuple #[]) ∧ ∃ lv', Rdr W0 w' p s a b lv' (ts ++ [nameTok (cutT s b a) b]) ov fr := fun kind w hk h => by
    unfold nameTok
    rw [← hX, ← hk]
    rw [hX]
    exact tell_lit kind _ false 0 0 0 hi_nought lo_nought 0 0 hl w h
  have HTK := Lib.hid hTK
  have hwd := fun w => word_any X w
  have hb : decide ((X.size : Int) ≤ 64) = decide (a - b ≤ 64) := by rw [hXz]; simp; omega
  have hx1000 : X.size ≤ 1000 := by omega
  rw [← hb]
  clear hX hTK hR hXz hb
  cases hw : isWord X with
  | true =>
    rw [hw] at hwd
    have HWD := Lib.hid hwd; have HK := Lib.hid (show (5 : Int) = (if isWord X = true then 5 else 4) by rw [hw]; rfl)
    clear hwd hw
    go_enter Tryd.func17, Tryd.ntmps17
    go_wp2
    go_region_held3 (fun w' => w'.cell? ⟨p, 0, none⟩ = some (.string s) ∧ w'.cell? ⟨p, 1, none⟩ = some (.int .i64 (a : Int)) ∧ w'.cell? ⟨p, 2, none⟩ = some (.int .i64 (b : Int))) (first
      | (exact ⟨c0, c1, c2⟩)
      | (exact ⟨(hcl 0).trans c0, (hcl 1).trans c1, (hcl 2).trans c2⟩)) ((go_at_call 22; ((with_reducible refine (lxClone_any X (by omega) _).mono ?_); rintro e w1 ⟨rfl, hb1⟩; have hcl := fun j => (bcell hb1).1 p j hlt; have R1 := Lib.hid ((HR.out.drew 1).later hb1); clear hb1)))
    all_goals
      go_wp2_with (first
        | (go_at_call 24; ((with_reducible refine (HWD.out _).mono ?_); rintro e w' ⟨rfl, rfl⟩))
        | (go_at_call 21; ((with_reducible refine (HTK.out _ _ HK.out R1.out).mono ?_); rintro e w2 ⟨rfl, lv2, R2⟩; have R3 := Lib.hid R2; clear R2)))
      go_ret
      exact ⟨rfl, _, R3.out⟩
  | false =>
    rw [hw] at hwd
    have HWD := Lib.hid hwd; have HK := Lib.hid (show (4 : Int) = (if isWord X = true then 5 else 4) by rw [hw]; rfl)
    clear hwd hw
    go_enter Tryd.func17, Tryd.ntmps17
    go_wp2
    go_region_held3 (fun w' => w'.cell? ⟨p, 0, none⟩ = some (.string s) ∧ w'.cell? ⟨p, 1, none⟩ = some (.int .i64 (a : Int)) ∧ w'.cell? ⟨p, 2, none⟩ = some (.int .i64 (b : Int))) (first
      | (exact ⟨c0, c1, c2⟩)
      | (exact ⟨(hcl 0).trans c0, (hcl 1).trans c1, (hcl 2).trans c2⟩)) ((go_at_call 22; ((with_reducible refine (lxClone_any X (by omega) _).mono ?_); rintro e w1 ⟨rfl, hb1⟩; have hcl := fun j => (bcell hb1).1 p j hlt; have R1 := Lib.hid ((HR.out.drew 1).later hb1); clear hb1)))
    all_goals
      go_wp2_with (first
        | (go_at_call 24; ((with_reducible refine (HWD.out _).mono ?_); rintro e w' ⟨rfl, rfl⟩))
        | (go_at_call 21; ((with_reducible refine (HTK.out _ _ HK.out R1.out).mono ?_); rintro e w2 ⟨rfl, lv2, R2⟩; have R3 := Lib.hid R2; clear R2)))
      go_ret
      exact ⟨rfl, _, R3.out⟩
end Go.Proofs.YtonajmngchfjeaaDoor
