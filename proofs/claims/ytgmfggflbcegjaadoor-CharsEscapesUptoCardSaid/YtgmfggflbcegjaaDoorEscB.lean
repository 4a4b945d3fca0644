/-
  Contracts of the document's escaping, of digits of base 16, and of blanks.
-/
import Derived.Test.YtgmfggflbcegjaaDoorQuotesLaw
namespace Go.Proofs.YtgmfggflbcegjaaDoor
open Go.RowKit Txt
attribute [local go_sem] setCell_drewN cell?_ext frozen?_ext shape?_ext setCell_ext lt_1' ne_1' en_1' le_1' lt_2' ne_2' en_2' le_2' lt_3' ne_3' en_3' le_3' lt_4' ne_4' en_4' le_4' lt_5' ne_5' en_5' le_5' lt_6' ne_6' en_6' le_6' lt_7' ne_7' en_7' le_7' lt_8' ne_8' en_8' le_8' lt_9' ne_9' en_9' le_9' lt_10' ne_10' en_10' le_10' lt_11' ne_11' en_11' le_11' lt_12' ne_12' en_12' le_12'

theorem esc_plain {c : UInt8} {attr : Bool} (h1 : ¬ c = 38) (h2 : ¬ c = 60) (h3 : ¬ c = 62) (h4 : ¬ c = 13) (h5 : attr = false ∨ (¬ c = 34 ∧ ¬ c = 9 ∧ ¬ c = 10)) : esc attr c = [c] := by
  refine esc_self ?_
  unfold rf
  rw [if_neg h1, if_neg h2, if_neg h3, if_neg h4]
  rcases h5 with rfl | ⟨a, b, d⟩
  · rfl
  · rw [if_neg a, if_neg b, if_neg d]
    split <;> rfl
theorem lit_conv (W : World) (c : UInt8) : (convert 57 9 (.slice (some ⟨W.heap.size, 0, none⟩) 1 1)).run Tryd.prog (W.alloc (.cells #[.int .u8 (c.toNat : Int)] 5)) = .ok (.string (mkb [c])) (W.alloc (.cells #[.int .u8 (c.toNat : Int)] 5)) :=
  Buf.conv (Buf.lit (W0 := W) (W := W) (Below.refl _ _) c (c.toNat : Int) rfl)
set_option maxHeartbeats 4000000 in
theorem rescape_any (c : UInt8) (attr : Bool) (w : World) :
    Calls Tryd.prog 35 #[.int .u8 (c.toNat : Int), .bool attr] w fun e w' => e = .returned (.string (mkb (esc attr c))) ∧ Below w.heap.size w w' := by
  by_cases h38 : c = 38
  · subst h38
    rw [show esc attr 38 = rf 38 attr from esc_ref (by cases attr <;> decide), show rf 38 attr = rf 38 true by cases attr <;> rfl]
    go_enter Tryd.func35, Tryd.ntmps35
    go_wp2
    go_ret
    exact ⟨rfl, by (repeat' (first | (with_reducible exact Below.refl _ _) | (with_reducible assumption) | (with_reducible refine Below.alloc ?_ ?_ _) | (with_reducible refine below_drewN ?_ _) | (with_reducible refine below_drew ?_) | (with_reducible refine below_ext ?_ ?_ _ _) | (with_reducible refine Below.setCell ?_ ?_ _) | (simp; done) | (simp; omega) | omega))⟩
  by_cases h60 : c = 60
  · subst h60
    rw [show esc attr 60 = rf 60 attr from esc_ref (by cases attr <;> decide), show rf 60 attr = rf 60 true by cases attr <;> rfl]
    go_enter Tryd.func35, Tryd.ntmps35
    go_wp2
    go_ret
    exact ⟨rfl, by (repeat' (first | (with_reducible exact Below.refl _ _) | (with_reducible assumption) | (with_reducible refine Below.alloc ?_ ?_ _) | (with_reducible refine below_drewN ?_ _) | (with_reducible refine below_drew ?_) | (with_reducible refine below_ext ?_ ?_ _ _) | (with_reducible refine Below.setCell ?_ ?_ _) | (simp; done) | (simp; omega) | omega))⟩
  by_cases h62 : c = 62
  · subst h62
    rw [show esc attr 62 = rf 62 attr from esc_ref (by cases attr <;> decide), show rf 62 attr = rf 62 true by cases attr <;> rfl]
    go_enter Tryd.func35, Tryd.ntmps35
    go_wp2
    go_ret
    exact ⟨rfl, by (repeat' (first | (with_reducible exact Below.refl _ _) | (with_reducible assumption) | (with_reducible refine Below.alloc ?_ ?_ _) | (with_reducible refine below_drewN ?_ _) | (with_reducible refine below_drew ?_) | (with_reducible refine below_ext ?_ ?_ _ _) | (with_reducible refine Below.setCell ?_ ?_ _) | (simp; done) | (simp; omega) | omega))⟩
  by_cases h13 : c = 13
  · subst h13
    rw [show esc attr 13 = rf 13 attr from esc_ref (by cases attr <;> decide), show rf 13 attr = rf 13 true by cases attr <;> rfl]
    go_enter Tryd.func35, Tryd.ntmps35
    go_wp2
    go_ret
    exact ⟨rfl, by (repeat' (first | (with_reducible exact Below.refl _ _) | (with_reducible assumption) | (with_reducible refine Below.alloc ?_ ?_ _) | (with_reducible refine below_drewN ?_ _) | (with_reducible refine below_drew ?_) | (with_reducible refine below_ext ?_ ?_ _ _) | (with_reducible refine Below.setCell ?_ ?_ _) | (simp; done) | (simp; omega) | omega))⟩
  have g1 : ((c.toNat : Int) == 38) = false := u8_ne h38
  have g2 : ((c.toNat : Int) == 60) = false := u8_ne h60
  have g3 : ((c.toNat : Int) == 62) = false := u8_ne h62
  have g4 : ((c.toNat : Int) == 13) = false := u8_ne h13
  have hlc := lit_conv w c
  cases attr with
  | false =>
    rw [esc_plain h38 h60 h62 h13 (.inl rfl)]
    clear h38 h60 h62 h13
    go_enter Tryd.func35, Tryd.ntmps35
    go_wp2
    go_ret
    exact ⟨rfl, by (repeat' (first | (with_reducible exact Below.refl _ _) | (with_reducible assumption) | (with_reducible refine Below.alloc ?_ ?_ _) | (with_reducible refine below_drewN ?_ _) | (with_reducible refine below_drew ?_) | (with_reducible refine below_ext ?_ ?_ _ _) | (with_reducible refine Below.setCell ?_ ?_ _) | (simp; done) | (simp; omega) | omega))⟩
  | true =>
    by_cases h34 : c = 34
    · subst h34
      clear g1 g2 g3 g4
      rw [show esc true 34 = rf 34 true from esc_ref (by decide)]
      go_enter Tryd.func35, Tryd.ntmps35
      go_wp2
      go_ret
      exact ⟨rfl, by (repeat' (first | (with_reducible exact Below.refl _ _) | (with_reducible assumption) | (with_reducible refine Below.alloc ?_ ?_ _) | (with_reducible refine below_drewN ?_ _) | (with_reducible refine below_drew ?_) | (with_reducible refine below_ext ?_ ?_ _ _) | (with_reducible refine Below.setCell ?_ ?_ _) | (simp; done) | (simp; omega) | omega))⟩
    by_cases h9 : c = 9
    · subst h9
      clear g1 g2 g3 g4
      rw [show esc true 9 = rf 9 true from esc_ref (by decide)]
      go_enter Tryd.func35, Tryd.ntmps35
      go_wp2
      go_ret
      exact ⟨rfl, by (repeat' (first | (with_reducible exact Below.refl _ _) | (with_reducible assumption) | (with_reducible refine Below.alloc ?_ ?_ _) | (with_reducible refine below_drewN ?_ _) | (with_reducible refine below_drew ?_) | (with_reducible refine below_ext ?_ ?_ _ _) | (with_reducible refine Below.setCell ?_ ?_ _) | (simp; done) | (simp; omega) | omega))⟩
    by_cases h10 : c = 10
    · subst h10
      clear g1 g2 g3 g4
      rw [show esc true 10 = rf 10 true from esc_ref (by decide)]
      go_enter Tryd.func35, Tryd.ntmps35
      go_wp2
      go_ret
      exact ⟨rfl, by (repeat' (first | (with_reducible exact Below.refl _ _) | (with_reducible assumption) | (with_reducible refine Below.alloc ?_ ?_ _) | (with_reducible refine below_drewN ?_ _) | (with_reducible refine below_drew ?_) | (with_reducible refine below_ext ?_ ?_ _ _) | (with_reducible refine Below.setCell ?_ ?_ _) | (simp; done) | (simp; omega) | omega))⟩
    have g5 : ((c.toNat : Int) == 34) = false := u8_ne h34
    have g6 : ((c.toNat : Int) == 9) = false := u8_ne h9
    have g7 : ((c.toNat : Int) == 10) = false := u8_ne h10
    rw [esc_plain h38 h60 h62 h13 (.inr ⟨h34, h9, h10⟩)]
    clear h38 h60 h62 h13 h34 h9 h10
    go_enter Tryd.func35, Tryd.ntmps35
    go_wp2
    go_ret
    exact ⟨rfl, by (repeat' (first | (with_reducible exact Below.refl _ _) | (with_reducible assumption) | (with_reducible refine Below.alloc ?_ ?_ _) | (with_reducible refine below_drewN ?_ _) | (with_reducible refine below_drew ?_) | (with_reducible refine below_ext ?_ ?_ _ _) | (with_reducible refine Below.setCell ?_ ?_ _) | (simp; done) | (simp; omega) | omega))⟩
end Go.Proofs.YtgmfggflbcegjaaDoor
