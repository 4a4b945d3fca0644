/-
  A value's plain fields: which are zero; as the program asks it (others, blank) and as the document does (bare).
-/
import Derived.Test.YtdmmpknpoephnaaDoorVal
namespace Go.Proofs.YtdmmpknpoephnaaDoor
open Go.RowKit Word Txt
attribute [local go_sem] setCell_drewN cell?_ext frozen?_ext shape?_ext setCell_ext lt_1' ne_1' en_1' le_1' lt_2' ne_2' en_2' le_2' lt_3' ne_3' en_3' le_3' lt_4' ne_4' en_4' le_4' lt_5' ne_5' en_5' le_5' lt_6' ne_6' en_6' le_6' lt_7' ne_7' en_7' le_7' lt_8' ne_8' en_8' le_8' lt_9' ne_9' en_9' le_9' lt_10' ne_10' en_10' le_10' lt_11' ne_11' en_11' le_11' lt_12' ne_12' en_12' le_12'

/-- a decimal that is zero in all its fields -/
def numZ (neg : Bool) (c : Nat) (s : Int) : Bool := !neg && (decide (c = 0) && decide (s = 0))
theorem numZ_hl (neg : Bool) (c : Nat) (s : Int) : numZ neg c s = (!neg && (decide (hi c = 0) && (decide (lo c = 0) && decide (s = 0)))) := by
  unfold numZ
  by_cases h : c = 0
  · subst h; simp [hi, lo]
  · have : ¬ (hi c = 0 ∧ lo c = 0) := by unfold hi lo; omega
    by_cases h1 : hi c = 0 <;> by_cases h2 : lo c = 0 <;> simp_all
theorem sizeZ (t : ByteArray) : decide (t.size = 0) = t.toList.isEmpty := by
  rw [ByteArray.toList_eq]
  obtain ⟨⟨l⟩⟩ := t
  cases l <;> simp [ByteArray.size]
theorem castZ (n : Nat) : ((n : Int) == 0) = decide (n = 0) := by by_cases h : n = 0 <;> simp [h]
/-- what blank answers -/
def blankB (yes neg : Bool) (c : Nat) (s : Int) (t : ByteArray) (day : Int) (nl nn : Nat) : Bool :=
  !yes && (numZ neg c s && (decide (t.size = 0) && (decide (day = 0) && (decide (nl = 0) && decide (nn = 0)))))
theorem blank_any (k : Int) (yes neg : Bool) (c : Nat) (s : Int) (t : ByteArray) (day : Int) (pl pn : Option Addr) (nl cl nn cn : Nat) (w : World) :
    Calls Tryd.prog 34 #[VC k yes neg c s t day (.slice pl nl cl) (.slice pn nn cn)] w fun e w' =>
      e = .returned (.bool (blankB yes neg c s t day nl nn)) ∧ Below w.heap.size w w' := by
  unfold blankB
  rw [numZ_hl, sizeZ]
  cases yes
  · go_enter Tryd.func34, Tryd.ntmps34
    go_wp2
    all_goals
      go_ret
      exact ⟨by simp [castZ, *], by (repeat' (first | (with_reducible exact Below.refl _ _) | (with_reducible assumption) | (with_reducible refine Below.alloc ?_ ?_ _) | (with_reducible refine below_drewN ?_ _) | (with_reducible refine below_drew ?_) | (with_reducible refine below_ext ?_ ?_ _ _) | (with_reducible refine Below.setCell ?_ ?_ _) | (simp; done) | (simp; omega) | omega))⟩
  · go_enter Tryd.func34, Tryd.ntmps34
    go_wp2
    go_ret
    exact ⟨rfl, by (repeat' (first | (with_reducible exact Below.refl _ _) | (with_reducible assumption) | (with_reducible refine Below.alloc ?_ ?_ _) | (with_reducible refine below_drewN ?_ _) | (with_reducible refine below_drew ?_) | (with_reducible refine below_ext ?_ ?_ _ _) | (with_reducible refine Below.setCell ?_ ?_ _) | (simp; done) | (simp; omega) | omega))⟩
/-- a value without the fields that its kind uses -/
def oth (k : Int) (yes neg : Bool) (c : Nat) (s : Int) (t : ByteArray) (day : Int) (pl : Option Addr) (nl cl : Nat) (pn : Option Addr) (nn cn : Nat) : Value :=
  VC k (if k = 1 then false else yes) (if k = 2 then false else neg) (if k = 2 then 0 else c) (if k = 2 then 0 else s) (if k = 3 then ⟨#[]⟩ else t) (if k = 4 then 0 else day)
    (.slice (if k = 5 ∨ k = 6 then none else pl) (if k = 5 ∨ k = 6 then 0 else nl) (if k = 5 ∨ k = 6 then 0 else cl)) (.slice (if k = 6 then none else pn) (if k = 6 then 0 else nn) (if k = 6 then 0 else cn))
set_option maxHeartbeats 4000000 in
theorem others_any (k : Int) (yes neg : Bool) (c : Nat) (s : Int) (t : ByteArray) (day : Int) (pl pn : Option Addr) (nl cl nn cn : Nat) (w : World) :
    Calls Tryd.prog 35 #[VC k yes neg c s t day (.slice pl nl cl) (.slice pn nn cn)] w fun e w' => e = .returned (oth k yes neg c s t day pl nl cl pn nn cn) ∧ Below w.heap.size w w' := by
  have z1 : ((hi 0 : Nat) : Int) = 0 := rfl
  have z2 : ((lo 0 : Nat) : Int) = 0 := rfl
  unfold oth
  go_enter Tryd.func35, Tryd.ntmps35
  go_wp2
  all_goals
    go_returns
    exact ⟨by simp_all, by (repeat' (first | (with_reducible exact Below.refl _ _) | (with_reducible assumption) | (with_reducible refine Below.alloc ?_ ?_ _) | (with_reducible refine below_drewN ?_ _) | (with_reducible refine below_drew ?_) | (with_reducible refine below_ext ?_ ?_ _ _) | (with_reducible refine Below.setCell ?_ ?_ _) | (simp; done) | (simp; omega) | omega))⟩
set_option maxHeartbeats 8000000 in
theorem bare_any (k : Int) (yes neg : Bool) (c : Nat) (s : Int) (t : ByteArray) (day : Int) (pl pn : Option Addr) (nl cl nn cn : Nat) (w : World) :
    Calls Tryd.prog 29 #[VC k yes neg c s t day (.slice pl nl cl) (.slice pn nn cn)] w fun e w' =>
      e = .returned (.bool (bareB k yes neg c s t day nl nn)) ∧ Below w.heap.size w w' := by
  have hB : bareB k yes neg c s t day nl nn = ((k == 1 || !yes) && ((k == 2 || numZ neg c s) && ((k == 3 || decide (t.size = 0)) && ((k == 4 || decide (day = 0)) && ((decide (5 ≤ k) || decide (nl = 0)) && (k == 6 || decide (nn = 0))))))) := rfl
  rw [hB, numZ_hl, sizeZ]
  clear hB
  go_enter Tryd.func29, Tryd.ntmps29
  go_wp2
  all_goals
    go_ret
    exact ⟨by simp [castZ, *], by (repeat' (first | (with_reducible exact Below.refl _ _) | (with_reducible assumption) | (with_reducible refine Below.alloc ?_ ?_ _) | (with_reducible refine below_drewN ?_ _) | (with_reducible refine below_drew ?_) | (with_reducible refine below_ext ?_ ?_ _ _) | (with_reducible refine Below.setCell ?_ ?_ _) | (simp; done) | (simp; omega) | omega))⟩
/-- both ask the same of what is of a kind that is one -/
theorem bare_blank (k : Int) (hk : 0 ≤ k) (hk6 : k ≤ 6) (yes neg : Bool) (c : Nat) (s : Int) (t : ByteArray) (day : Int) (nl nn : Nat) :
    blankB (if k = 1 then false else yes) (if k = 2 then false else neg) (if k = 2 then 0 else c) (if k = 2 then 0 else s) (if k = 3 then ⟨#[]⟩ else t) (if k = 4 then 0 else day)
      (if k = 5 ∨ k = 6 then 0 else nl) (if k = 6 then 0 else nn) = bareB k yes neg c s t day nl nn := by
  unfold blankB bareB numZ
  have h : k = 0 ∨ k = 1 ∨ k = 2 ∨ k = 3 ∨ k = 4 ∨ k = 5 ∨ k = 6 := by omega
  have hz : (⟨#[]⟩ : ByteArray).size = 0 := rfl
  rcases h with rfl | rfl | rfl | rfl | rfl | rfl | rfl <;> simp [hz]
end Go.Proofs.YtdmmpknpoephnaaDoor
