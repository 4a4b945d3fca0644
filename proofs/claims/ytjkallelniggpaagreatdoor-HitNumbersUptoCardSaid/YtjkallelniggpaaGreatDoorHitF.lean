/-
  Two numbers put together: the sum, the least, the greatest.
-/
import Derived.Test.YtjkallelniggpaaGreatDoorBm
import Derived.Test.YtjkallelniggpaaGreatDoorSign
import Derived.Test.YtjkallelniggpaaGreatDoorDSums
namespace Go.Proofs.YtjkallelniggpaaGreatDoor
open Go.RowKit Word Txt
attribute [local go_sem] setCell_drewN cell?_ext frozen?_ext shape?_ext setCell_ext lt_1' ne_1' en_1' le_1' lt_2' ne_2' en_2' le_2' lt_3' ne_3' en_3' le_3' lt_4' ne_4' en_4' le_4' lt_5' ne_5' en_5' le_5' lt_6' ne_6' en_6' le_6' lt_7' ne_7' en_7' le_7' lt_8' ne_8' en_8' le_8' lt_9' ne_9' en_9' le_9' lt_10' ne_10' en_10' le_10' lt_11' ne_11' en_11' le_11' lt_12' ne_12' en_12' le_12'

/-- a number: sign, body, scale -/
abbrev NN := Bool × Nat × Int
abbrev DN (a : NN) : Value := D a.1 a.2.1 a.2.2
def formN (a : NN) : Bool := formB a.1 a.2.1 a.2.2
def uniN (a : NN) : Nat := Fit.uni a.2.1 a.2.2.toNat
def svN (a : NN) : Int := sv a.1 (uniN a)
def cmpN (a b : NN) : Int := ordV a.1 (uniN a) b.1 (uniN b)
def fitN (a b : NN) : Option (Nat × Nat) := Fit.fit (Fit.sumN a.1 (uniN a) b.1 (uniN b)).2 (10 ^ 18) 19
def plusN (a b : NN) : NN × Int := (((Fit.sumN a.1 (uniN a) b.1 (uniN b)).1 && decide (0 < fitC (fitN a b)), fitC (fitN a b), fitZ (fitN a b)), fitE (fitN a b))
/-- what two numbers come to -/
def mrgN (p : Int) (a b : NN) : NN × Int := if p = 8 then plusN a b else if (p = 9 ∧ 0 < cmpN a b) ∨ (p = 10 ∧ cmpN a b < 0) then (b, 0) else (a, 0)
theorem mrg_add (a b : NN) : mrgN 8 a b = plusN a b := if_pos rfl
theorem add_form {a b : NN} (h : (plusN a b).2 = 0) : formN (plusN a b).1 = true := by
  unfold plusN at h ⊢
  cases hF : fitN a b with
  | none => rw [hF] at h; cases h
  | some cs =>
    obtain ⟨c, s⟩ := cs
    unfold fitN at hF
    have := fit_inform (g := (Fit.sumN a.1 (uniN a) b.1 (uniN b)).1) hF
    exact this
theorem mrg_form {p : Int} {a b : NN} (ha : formN a = true) (hb : formN b = true) (h : (mrgN p a b).2 = 0) : formN (mrgN p a b).1 = true := by
  unfold mrgN at h ⊢
  split
  · rename_i h8
    rw [if_pos h8] at h
    exact add_form h
  · split
    · exact hb
    · exact ha
theorem sign_pos {a : NN} (h : formN a = true) : a.1 = true → 0 < uniN a := by
  obtain ⟨S, hS, h1, h2, h3, h4⟩ := form_open h
  intro hn
  have := form_signed h3 h4 hn
  unfold uniN
  rw [hS]
  exact this
theorem cmp_sv {a b : NN} (ha : formN a = true) (hb : formN b = true) : (svN a < svN b ∧ cmpN a b = -1) ∨ (svN a = svN b ∧ cmpN a b = 0) ∨ (svN b < svN a ∧ cmpN a b = 1) := ordV_sv (sign_pos ha) (sign_pos hb)
theorem dcmpN {a b : NN} (ha : formN a = true) (hb : formN b = true) (w : World) (ht : Tens w) : Calls Tryz.prog 13 #[DN a, DN b] w fun e w' => e = .returned (.tuple #[.int .i64 (cmpN a b), .int .i64 0]) ∧ Below w.heap.size w w' := by
  obtain ⟨SA, hA, -⟩ := form_open ha
  obtain ⟨SB, hB, -⟩ := form_open hb
  exact dcmp_ok a.1 b.1 a.2.1 b.2.1 a.2.2 b.2.2 SA SB hA hB ha hb _ (by unfold cmpN uniN; rw [hA, hB]; rfl) w ht
theorem daddN {a b : NN} (ha : formN a = true) (hb : formN b = true) (w : World) (ht : Tens w) : Calls Tryz.prog 81 #[DN a, DN b] w fun e w' => e = .returned (.tuple #[DN (plusN a b).1, .int .i64 (plusN a b).2]) ∧ Below w.heap.size w w' := by
  obtain ⟨SA, hA, -⟩ := form_open ha
  obtain ⟨SB, hB, -⟩ := form_open hb
  exact dadd_ok a.1 b.1 a.2.1 b.2.1 a.2.2 b.2.2 SA SB hA hB ha hb (Fit.sumN a.1 (uniN a) b.1 (uniN b)).1 (fitN a b) (by unfold uniN; rw [hA, hB]; rfl) (by unfold fitN uniN; rw [hA, hB]; rfl) w ht
set_option maxRecDepth 100000 in
theorem merge_any (p : Int) (hp : p = 8 ∨ p = 9 ∨ p = 10) {a b : NN} (ha : formN a = true) (hb : formN b = true) (w : World) (ht : Tens w) :
    Calls Tryz.prog 57 #[.int .i64 p, DN a, DN b] w fun e w' => e = .returned (.tuple #[DN (mrgN p a b).1, .int .i64 (mrgN p a b).2]) ∧ Below w.heap.size w w' := by
  have HT := Lib.hid (fun w' (hb : Below w.heap.size w w') => ht.below hb)
  have HA := Lib.hid (show ∀ w1, Below w.heap.size w w1 → _ from fun w1 h1 => daddN ha hb w1 (ht.below h1))
  have HC := Lib.hid (show ∀ w1, Below w.heap.size w w1 → _ from fun w1 h1 => dcmpN ha hb w1 (ht.below h1))
  rcases hp with rfl | hp
  · rw [mrg_add]
    obtain ⟨r, hr⟩ : ∃ r, r = plusN a b := ⟨_, rfl⟩
    rw [← hr] at HA ⊢
    obtain ⟨⟨n, c, s⟩, e0⟩ := r
    clear hr ht ha hb HC
    go_enter Tryz.func57, Tryz.ntmps57
    go_wp2_with (first
      | (go_at_call 81; ((with_reducible refine (HA.out _ (by (repeat' (first | (with_reducible exact Below.refl _ _) | (with_reducible assumption) | (with_reducible refine Below.alloc ?_ ?_ _) | (with_reducible refine below_drewN ?_ _) | (with_reducible refine below_drew ?_) | (with_reducible refine below_ext ?_ ?_ _ _) | (with_reducible refine Below.setCell ?_ ?_ _) | (simp; done) | (simp; omega) | omega)))).mono ?_); rintro e w1 ⟨rfl, hb1⟩; obtain ⟨osA, dA, rfl⟩ := ext_of_below hb1; clear hb1)))
    go_returns
    exact ⟨rfl, by (repeat' (first | (with_reducible exact Below.refl _ _) | (with_reducible assumption) | (with_reducible refine Below.alloc ?_ ?_ _) | (with_reducible refine below_drewN ?_ _) | (with_reducible refine below_drew ?_) | (with_reducible refine below_ext ?_ ?_ _ _) | (with_reducible refine Below.setCell ?_ ?_ _) | (simp; done) | (simp; omega) | omega))⟩
  · obtain ⟨r, hr⟩ : ∃ r, r = cmpN a b := ⟨_, rfl⟩
    have HM := Lib.hid (show mrgN p a b = if (p = 9 ∧ 0 < r) ∨ (p = 10 ∧ r < 0) then (b, 0) else (a, 0) from by
      unfold mrgN
      rw [if_neg (by omega), hr])
    rw [← hr] at HC
    obtain ⟨na, ca, sa⟩ := a
    obtain ⟨nb, cb, sb⟩ := b
    clear hr ht ha hb HA
    by_cases h : (p = 9 ∧ 0 < r) ∨ (p = 10 ∧ r < 0)
    · have HM2 := Lib.hid (HM.out.trans (if_pos h))
      rw [HM2.out]
      clear HM HM2 hp
      rcases h with ⟨rfl, h⟩ | ⟨rfl, h⟩
      all_goals
        go_enter Tryz.func57, Tryz.ntmps57
        go_wp2_with (first
          | (go_at_call 13; ((with_reducible refine (HC.out _ (by (repeat' (first | (with_reducible exact Below.refl _ _) | (with_reducible assumption) | (with_reducible refine Below.alloc ?_ ?_ _) | (with_reducible refine below_drewN ?_ _) | (with_reducible refine below_drew ?_) | (with_reducible refine below_ext ?_ ?_ _ _) | (with_reducible refine Below.setCell ?_ ?_ _) | (simp; done) | (simp; omega) | omega)))).mono ?_); rintro e w1 ⟨rfl, hb1⟩; obtain ⟨osA, dA, rfl⟩ := ext_of_below hb1; clear hb1)))
        go_returns
        exact ⟨rfl, by (repeat' (first | (with_reducible exact Below.refl _ _) | (with_reducible assumption) | (with_reducible refine Below.alloc ?_ ?_ _) | (with_reducible refine below_drewN ?_ _) | (with_reducible refine below_drew ?_) | (with_reducible refine below_ext ?_ ?_ _ _) | (with_reducible refine Below.setCell ?_ ?_ _) | (simp; done) | (simp; omega) | omega))⟩
    · have HM2 := Lib.hid (HM.out.trans (if_neg h))
      rw [HM2.out]
      clear HM HM2
      rcases hp with rfl | rfl
      · have h2 : ¬ 0 < r := fun h9 => h (.inl ⟨rfl, h9⟩)
        clear h
        go_enter Tryz.func57, Tryz.ntmps57
        go_wp2_with (first
          | (go_at_call 13; ((with_reducible refine (HC.out _ (by (repeat' (first | (with_reducible exact Below.refl _ _) | (with_reducible assumption) | (with_reducible refine Below.alloc ?_ ?_ _) | (with_reducible refine below_drewN ?_ _) | (with_reducible refine below_drew ?_) | (with_reducible refine below_ext ?_ ?_ _ _) | (with_reducible refine Below.setCell ?_ ?_ _) | (simp; done) | (simp; omega) | omega)))).mono ?_); rintro e w1 ⟨rfl, hb1⟩; obtain ⟨osA, dA, rfl⟩ := ext_of_below hb1; clear hb1)))
        go_returns
        exact ⟨rfl, by (repeat' (first | (with_reducible exact Below.refl _ _) | (with_reducible assumption) | (with_reducible refine Below.alloc ?_ ?_ _) | (with_reducible refine below_drewN ?_ _) | (with_reducible refine below_drew ?_) | (with_reducible refine below_ext ?_ ?_ _ _) | (with_reducible refine Below.setCell ?_ ?_ _) | (simp; done) | (simp; omega) | omega))⟩
      · have h2 : ¬ r < 0 := fun h9 => h (.inr ⟨rfl, h9⟩)
        clear h
        go_enter Tryz.func57, Tryz.ntmps57
        go_wp2_with (first
          | (go_at_call 13; ((with_reducible refine (HC.out _ (by (repeat' (first | (with_reducible exact Below.refl _ _) | (with_reducible assumption) | (with_reducible refine Below.alloc ?_ ?_ _) | (with_reducible refine below_drewN ?_ _) | (with_reducible refine below_drew ?_) | (with_reducible refine below_ext ?_ ?_ _ _) | (with_reducible refine Below.setCell ?_ ?_ _) | (simp; done) | (simp; omega) | omega)))).mono ?_); rintro e w1 ⟨rfl, hb1⟩; obtain ⟨osA, dA, rfl⟩ := ext_of_below hb1; clear hb1)))
        go_returns
        exact ⟨rfl, by (repeat' (first | (with_reducible exact Below.refl _ _) | (with_reducible assumption) | (with_reducible refine Below.alloc ?_ ?_ _) | (with_reducible refine below_drewN ?_ _) | (with_reducible refine below_drew ?_) | (with_reducible refine below_ext ?_ ?_ _ _) | (with_reducible refine Below.setCell ?_ ?_ _) | (simp; done) | (simp; omega) | omega))⟩
end Go.Proofs.YtjkallelniggpaaGreatDoor
