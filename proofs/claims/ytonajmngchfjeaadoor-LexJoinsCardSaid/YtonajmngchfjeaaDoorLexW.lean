/-
  The law LexReads.
-/
import Derived.Test.YtonajmngchfjeaaDoorLexR
import Derived.Test.YtonajmngchfjeaaDoorLexS2
namespace Go.Proofs.YtonajmngchfjeaaDoor
open Go.RowKit Word Txt
open Lx (Tok)
attribute [local go_sem] setCell_drewN cell?_ext frozen?_ext shape?_ext setCell_ext lt_1' ne_1' en_1' le_1' lt_2' ne_2' en_2' le_2' lt_3' ne_3' en_3' le_3' lt_4' ne_4' en_4' le_4' lt_5' ne_5' en_5' le_5' lt_6' ne_6' en_6' le_6' lt_7' ne_7' en_7' le_7' lt_8' ne_8' en_8' le_8' lt_9' ne_9' en_9' le_9' lt_10' ne_10' en_10' le_10' lt_11' ne_11' en_11' le_11' lt_12' ne_12' en_12' le_12'

def knownToks : List Tok := [⟨4, [97], false, 0, 0, 0, 0⟩, ⟨6, [60, 61], false, 0, 0, 0, 2⟩, ⟨1, [], false, 1, 0, 0, 4⟩]
theorem known_out {F : Lx.Fn} (hF : FOP F) : lexOut F { data := #[97, 32, 60, 61, 49] } = (knownToks, 0) := by
  rw [lexOut_of (by decide) (by decide +kernel)]
  have e1 : Lx.one F [97, 32, 60, 61, 49] = ⟨⟨4, [97], false, 0, 0, 0, 0⟩, 1, 0⟩ := by
    show Lx.wordOne F [97, 32, 60, 61, 49] = _
    unfold Lx.wordOne
    rw [show Lx.wordLen [97, 32, 60, 61, 49] = 1 by decide, if_pos (by decide), hF.word]
    rfl
  have e2 : Lx.one F [60, 61, 49] = ⟨⟨6, [60, 61], false, 0, 0, 0, 0⟩, 2, 0⟩ := rfl
  have e3 : Lx.one F [49] = ⟨⟨1, [], false, 1, 0, 0, 0⟩, 1, 0⟩ := by
    show Lx.numOne F [49] = _
    unfold Lx.numOne
    rw [show Lx.numLen [49] = 1 by decide, show List.take 1 [(49 : UInt8)] = [49] from rfl, hF.one]
  have b1 : Lx.bl 97 = false := by decide
  have b2 : Lx.bl 32 = true := by decide
  have b3 : Lx.bl 60 = false := by decide
  have b4 : Lx.bl 49 = false := by decide
  have e : Lx.toks (Lx.one F) (({ data := #[97, 32, 60, 61, 49] } : ByteArray).size + 1) ({ data := #[97, 32, 60, 61, 49] } : ByteArray).data.toList 0 [] false false = some (knownToks, false, false) := by
    show Lx.toks (Lx.one F) 6 [97, 32, 60, 61, 49] 0 [] false false = _
    simp [Lx.toks, e1, e2, e3, b1, b2, b3, b4, knownToks]
  rw [e]
  rfl
theorem TRow.known {w : World} (b : Nat) (hb : b = w.heap.size) : TRow (w.alloc (.cells #[.int .i64 4, .string { data := #[97] }, .bool false, .int .u64 0, .int .u64 0, .int .i64 0, .int .i64 0, .int .i64 0, .int .i64 6, .string { data := #[60, 61] }, .bool false, .int .u64 0, .int .u64 0, .int .i64 0, .int .i64 0, .int .i64 2, .int .i64 1, .string { data := #[] }, .bool false, .int .u64 0, .int .u64 1, .int .i64 0, .int .i64 0, .int .i64 4] 33)) (.slice (some ⟨b, 0, none⟩) 3 3) knownToks := by
  subst hb
  refine ⟨_, 3, rfl, fun _ => ⟨_, rfl, by show w.heap.size < (w.heap.push _).size; simp, fun i hii j hj => ?_⟩⟩
  rw [cell_of_row _ _ (i * 8 + j) _ _ (0, 0) (by show (w.heap.push _)[w.heap.size]? = _; rw [Array.getElem?_push_size])]
  have hi3 : i < 3 := hii
  rcases (show i = 0 ∨ i = 1 ∨ i = 2 by omega) with rfl | rfl | rfl
  all_goals rcases (show j = 0 ∨ j = 1 ∨ j = 2 ∨ j = 3 ∨ j = 4 ∨ j = 5 ∨ j = 6 ∨ j = 7 by omega) with rfl | rfl | rfl | rfl | rfl | rfl | rfl | rfl <;> first
    | rfl
    | exact congrArg (fun z : Int => some (Value.int .u64 z)) (by decide : (0 : Int) = ((hi 0 : Nat) : Int))
    | exact congrArg (fun z : Int => some (Value.int .u64 z)) (by decide : (0 : Int) = ((hi 1 : Nat) : Int))
set_option maxRecDepth 100000 in
set_option maxHeartbeats 8000000 in
theorem lxknown_any {F : Lx.Fn} (hF : FOP F) (w : World) (hT : Tabs w) (hL : Lens w) :
    Calls Tryd.prog 4 #[] w fun e w' => e = .returned (.bool true) ∧ Below w.heap.size w w' := by
  have h := lexRead_any hF { data := #[97, 32, 60, 61, 49] } (by decide) w hT hL
  rw [known_out hF] at h
  have HK := Lib.hid (show Calls Tryd.prog 5 #[.string { data := #[97, 32, 60, 61, 49] }] w fun e w' => ∃ v, e = .returned (.tuple #[v, .int .i64 0]) ∧ TB w.heap.size v knownToks w w' from h)
  clear h hF hT hL
  go_enter Tryd.func4, Tryd.ntmps4
  go_wp2_with (first
    | (go_at_call 5; ((with_reducible refine HK.out.mono ?_); rintro e w1 ⟨v, rfl, hb⟩; have HR := Lib.hid hb.row; obtain ⟨os1, d1, rfl⟩ := ext_of_below hb.2.1; clear hb))
    | (go_at_call 6; ((with_reducible refine (rtokSame_any _ _ knownToks (by decide) _ (HR.out.later (by (repeat' (first | (with_reducible exact Below.refl _ _) | (with_reducible assumption) | (with_reducible refine Below.alloc ?_ ?_ _) | (with_reducible refine below_drewN ?_ _) | (with_reducible refine below_drew ?_) | (with_reducible refine below_ext ?_ ?_ _ _) | (with_reducible refine Below.setCell ?_ ?_ _) | (simp; done) | (simp; omega) | omega)))) (TRow.known _ (by simp))).mono ?_); rintro e w2 ⟨rfl, hb2⟩; obtain ⟨os2, d2, rfl⟩ := ext_of_below hb2; clear hb2)))
  go_ret
  exact ⟨rfl, by (repeat' (first | (with_reducible exact Below.refl _ _) | (with_reducible assumption) | (with_reducible refine Below.alloc ?_ ?_ _) | (with_reducible refine below_drewN ?_ _) | (with_reducible refine below_drew ?_) | (with_reducible refine below_ext ?_ ?_ _ _) | (with_reducible refine Below.setCell ?_ ?_ _) | (simp; done) | (simp; omega) | omega))⟩
theorem toks_len {F : Lx.Fn} : ∀ (n : Nat) (l : List UInt8) (p : Nat) (acc : List Tok) (ov fr : Bool) (r : List Tok × Bool × Bool), Lx.toks (Lx.one F) n l p acc ov fr = some r → r.1.length ≤ acc.length + n
  | 0, _, _, acc, _, _, r, h => by rw [Lx.toks] at h; cases h; exact Nat.le_refl _
  | n + 1, [], _, acc, _, _, r, h => by rw [Lx.toks] at h; cases h; exact Nat.le_add_right _ _
  | n + 1, c :: l, p, acc, ov, fr, r, h => by
    rw [Lx.toks] at h
    by_cases hb : Lx.bl c = true
    · rw [if_pos hb] at h
      have := toks_len n l _ _ _ _ r h
      omega
    · rw [if_neg hb] at h
      by_cases he : (Lx.one F (c :: l)).err = 5
      · rw [if_pos he] at h; cases h
      · rw [if_neg he] at h
        have := toks_len n _ _ _ _ _ r h
        rw [List.length_append] at this
        simp only [List.length_cons, List.length_nil] at this
        omega
theorem lexOut_len (F : Lx.Fn) (s : ByteArray) : (lexOut F s).1.length ≤ 1001 := by
  unfold lexOut
  by_cases h : 1000 < s.size
  · rw [if_pos h]; exact Nat.zero_le _
  · rw [if_neg h]
    split
    · exact Nat.zero_le _
    · split
      · exact Nat.zero_le _
      · rename_i ts ov fr e
        have := toks_len _ _ _ _ _ _ _ e
        split
        · exact Nat.zero_le _
        · split
          · exact Nat.zero_le _
          · simp only [List.length_nil] at this
            show ts.length ≤ 1001
            omega
end Go.Proofs.YtonajmngchfjeaaDoor
