/-
  Part and DocPart answer the same.
-/
import Derived.Test.YtgmfggflbcegjaaDoorPlaces
import Derived.Test.YtgmfggflbcegjaaDoorCuts
namespace Go.Proofs.YtgmfggflbcegjaaDoor
open Go.RowKit Txt
attribute [local go_sem] setCell_drewN cell?_ext frozen?_ext shape?_ext setCell_ext lt_1' ne_1' en_1' le_1' lt_2' ne_2' en_2' le_2' lt_3' ne_3' en_3' le_3' lt_4' ne_4' en_4' le_4' lt_5' ne_5' en_5' le_5' lt_6' ne_6' en_6' le_6' lt_7' ne_7' en_7' le_7' lt_8' ne_8' en_8' le_8' lt_9' ne_9' en_9' le_9' lt_10' ne_10' en_10' le_10' lt_11' ne_11' en_11' le_11' lt_12' ne_12' en_12' le_12'

theorem ext_ext (s : ByteArray) (p q : Nat) : (s.extract p s.size).extract 0 q = s.extract p (p + q) := by
  apply ByteArray.ext
  apply Array.ext'
  rw [ext_data, ext_data, ext_data, List.drop_zero, List.take_of_length_le (l := s.data.toList) (by simp), List.drop_take]
  congr 1
  omega
theorem part_eq (s : ByteArray) (ht : isText s = true) (skip n k : Nat) (hlt : skip < Lib.runeCount s) (hk : k = min n (Lib.runeCount s - skip)) : partB s skip n = s.extract (place s skip) (place s (skip + k)) := by
  obtain ⟨m, hP, hm⟩ := place_mono s ht skip (skip + k) (by omega) (by omega)
  obtain ⟨m2, hE, hm2⟩ := place_mono s ht (skip + k) (Lib.runeCount s) (by omega) (Nat.le_refl _)
  have hall : place s (Lib.runeCount s) = s.size := place_all s _ (Nat.le_refl _)
  rw [hall] at hE
  have hPQ := hP.le
  have hQ := hE.le
  obtain ⟨P, hP'⟩ : ∃ P, P = place s skip := ⟨_, rfl⟩
  obtain ⟨Q, hQ'⟩ : ∃ Q, Q = place s (skip + k) := ⟨_, rfl⟩
  rw [← hP', ← hQ'] at hP hPQ
  rw [← hQ'] at hE hQ
  unfold partB
  rw [← hP', ← hQ']
  have hq : place (s.extract P s.size) n = Q - P := by
    by_cases hn : n ≤ Lib.runeCount s - skip
    · have hkn : k = n := by omega
      have h1 : Path (s.extract P s.size) 0 n (Q - P) := by
        have := hP.mid P 0 rfl hQ
        rw [show m = n by omega] at this
        exact this
      exact h1.place _ (by omega) (by rw [size_suffix]; omega)
    · have hkn : k = Lib.runeCount s - skip := by omega
      have hQs : Q = s.size := by rw [hQ', hkn, show skip + (Lib.runeCount s - skip) = Lib.runeCount s by omega]; exact hall
      have hc : Lib.runeCount (s.extract P s.size) ≤ n := by
        rw [hQs] at hP
        obtain ⟨-, h2⟩ := (hP.suf P 0 rfl rfl).text (by rw [size_suffix]) (s.extract P s.size).size (by omega)
        have : Lib.runeCount (s.extract P s.size) = m := h2
        omega
      rw [place_all _ n hc, size_suffix, hQs]
  rw [hq, ext_ext s P (Q - P)]
  congr 1
  omega
theorem part_end (s : ByteArray) (skip n : Nat) (hge : Lib.runeCount s ≤ skip) : partB s skip n = { data := #[] } := by
  unfold partB
  rw [place_all s skip hge]
  apply ByteArray.ext
  apply Array.ext'
  rw [ext_data, ext_data]
  simp
end Go.Proofs.YtgmfggflbcegjaaDoor
