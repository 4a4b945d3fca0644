/-
  Contracts of the document's kinds: what fits; what lies under what.
-/
import Derived.Test.YtcnkcfbodpkllabDoorKindC
namespace Go.Proofs.YtcnkcfbodpkllabDoor
open Go.RowKit
attribute [local go_sem] setCell_drewN cell?_ext frozen?_ext shape?_ext setCell_ext lt_1' ne_1' en_1' le_1' lt_2' ne_2' en_2' le_2' lt_3' ne_3' en_3' le_3' lt_4' ne_4' en_4' le_4' lt_5' ne_5' en_5' le_5' lt_6' ne_6' en_6' le_6' lt_7' ne_7' en_7' le_7' lt_8' ne_8' en_8' le_8' lt_9' ne_9' en_9' le_9' lt_10' ne_10' en_10' le_10' lt_11' ne_11' en_11' le_11' lt_12' ne_12' en_12' le_12'

set_option maxHeartbeats 4000000 in
theorem fits_nil (k day k2 o2 : Int) (hk : (k == 0) = false) (w : World) :
    Calls Tryd.prog 23 #[SV k day (.slice none 0 0), T k2 o2] w fun e w' => e = .returned (.bool ((k2 == 0) || (k == k2))) ∧ Below w.heap.size w w' := by
  cases h1 : (k2 == 0)
  · cases h2 : (k == k2)
    · go_enter Tryd.func23, Tryd.ntmps23
      go_wp2
      go_ret
      exact ⟨rfl, by (repeat' (first | (with_reducible exact Below.refl _ _) | (with_reducible assumption) | (with_reducible refine Below.alloc ?_ ?_ _) | (with_reducible refine below_drewN ?_ _) | (with_reducible refine below_drew ?_) | (with_reducible refine below_ext ?_ ?_ _ _) | (with_reducible refine Below.setCell ?_ ?_ _) | (simp; done) | (simp; omega) | omega))⟩
    · go_enter Tryd.func23, Tryd.ntmps23
      go_wp2
      go_loopw [5] (fun i wr => i = .int .i64 0 ∧ wr = (w.alloc (.cells #[.int .i64 k, .bool false, .bool false, .int .u64 0, .int .u64 0, .int .i64 0, .string ⟨#[]⟩, .int .i64 day, .slice none 0 0, .slice none 0 0] 52)).alloc (.cells #[.int .i64 k2, .int .i64 o2] 23)) (fun _ _ => 0)
      case atStart => exact ⟨rfl, rfl⟩
      case round =>
        obtain ⟨rfl, rfl⟩ := hrel
        cases h3 : (o2 == 0)
        · have n3 : (o2 != 0) = true := by rw [bne, h3]; rfl
          go_wp2
          go_ret
          exact ⟨rfl, by (repeat' (first | (with_reducible exact Below.refl _ _) | (with_reducible assumption) | (with_reducible refine Below.alloc ?_ ?_ _) | (with_reducible refine below_drewN ?_ _) | (with_reducible refine below_drew ?_) | (with_reducible refine below_ext ?_ ?_ _ _) | (with_reducible refine Below.setCell ?_ ?_ _) | (simp; done) | (simp; omega) | omega))⟩
        · have n3 : (o2 != 0) = false := by rw [bne, h3]; rfl
          go_wp2
          go_ret
          exact ⟨rfl, by (repeat' (first | (with_reducible exact Below.refl _ _) | (with_reducible assumption) | (with_reducible refine Below.alloc ?_ ?_ _) | (with_reducible refine below_drewN ?_ _) | (with_reducible refine below_drew ?_) | (with_reducible refine below_ext ?_ ?_ _ _) | (with_reducible refine Below.setCell ?_ ?_ _) | (simp; done) | (simp; omega) | omega))⟩
  · go_enter Tryd.func23, Tryd.ntmps23
    go_wp2
    go_ret
    exact ⟨rfl, by (repeat' (first | (with_reducible exact Below.refl _ _) | (with_reducible assumption) | (with_reducible refine Below.alloc ?_ ?_ _) | (with_reducible refine below_drewN ?_ _) | (with_reducible refine below_drew ?_) | (with_reducible refine below_ext ?_ ?_ _ _) | (with_reducible refine Below.setCell ?_ ?_ _) | (simp; done) | (simp; omega) | omega))⟩
set_option maxHeartbeats 4000000 in
theorem fits_one (g : Nat) (ek k2 o2 : Int) (he : (ek == 0) = false) (w : World) (hg : g < w.heap.size) (hc : w.cell? ⟨g, 0, none⟩ = some (.int .i64 ek)) :
    Calls Tryd.prog 23 #[SV 5 0 (.slice (some ⟨g, 0, none⟩) 1 1), T k2 o2] w fun e w' => e = .returned (.bool ((k2 == 0) || ((5 == k2) && ((o2 == 0) || (ek == o2))))) ∧ Below w.heap.size w w' := by
  have hn0 : (g = w.heap.size) = False := by simp; omega
  have hn1 : (g = w.heap.size + 1) = False := by simp; omega
  cases h1 : (k2 == 0)
  · cases h2 : ((5 : Int) == k2)
    · go_enter Tryd.func23, Tryd.ntmps23
      go_wp2
      go_ret
      exact ⟨rfl, by (repeat' (first | (with_reducible exact Below.refl _ _) | (with_reducible assumption) | (with_reducible refine Below.alloc ?_ ?_ _) | (with_reducible refine below_drewN ?_ _) | (with_reducible refine below_drew ?_) | (with_reducible refine below_ext ?_ ?_ _ _) | (with_reducible refine Below.setCell ?_ ?_ _) | (simp; done) | (simp; omega) | omega))⟩
    · cases h3 : (o2 == 0)
      · have n3 : (o2 != 0) = true := by rw [bne, h3]; rfl
        have ne : (ek != 0) = true := by rw [bne, he]; rfl
        cases h4 : (ek == o2)
        · have n4 : (ek != o2) = true := by rw [bne, h4]; rfl
          go_enter Tryd.func23, Tryd.ntmps23
          go_wp2
          go_loopw [5] (fun i wr => (i = .int .i64 0 ∨ i = .int .i64 1 ∧ (ek == o2) = true) ∧ ∃ n, wr = ((w.alloc (.cells #[.int .i64 5, .bool false, .bool false, .int .u64 0, .int .u64 0, .int .i64 0, .string ⟨#[]⟩, .int .i64 0, .slice (some ⟨g, 0, none⟩) 1 1, .slice none 0 0] 52)).alloc (.cells #[.int .i64 k2, .int .i64 o2] 23)).drewN n) (fun i _ => (1 - intOf i).toNat)
          case atStart => exact ⟨.inl rfl, 0, rfl⟩
          case round =>
            obtain ⟨hi, n, rfl⟩ := hrel
            rcases hi with rfl | ⟨rfl, h5⟩
            · go_wp2
              go_region_held3 (fun w' => w'.cell? ⟨w.heap.size, 8, none⟩ = some (.slice (some ⟨g, 0, none⟩) 1 1) ∧ w'.cell? ⟨g, 0, none⟩ = some (.int .i64 ek) ∧ w'.cell? ⟨w.heap.size + 1, 1, none⟩ = some (.int .i64 o2)) (first | (simp [go_sem]; done) | go_keep) (fail)
              all_goals
                go_wp2
                go_ret
                exact ⟨rfl, by (repeat' (first | (with_reducible exact Below.refl _ _) | (with_reducible assumption) | (with_reducible refine Below.alloc ?_ ?_ _) | (with_reducible refine below_drewN ?_ _) | (with_reducible refine below_drew ?_) | (with_reducible refine below_ext ?_ ?_ _ _) | (with_reducible refine Below.setCell ?_ ?_ _) | (simp; done) | (simp; omega) | omega))⟩
            · exfalso; rw [h4] at h5; cases h5
        · have n4 : (ek != o2) = false := by rw [bne, h4]; rfl
          go_enter Tryd.func23, Tryd.ntmps23
          go_wp2
          go_loopw [5] (fun i wr => (i = .int .i64 0 ∨ i = .int .i64 1 ∧ (ek == o2) = true) ∧ ∃ n, wr = ((w.alloc (.cells #[.int .i64 5, .bool false, .bool false, .int .u64 0, .int .u64 0, .int .i64 0, .string ⟨#[]⟩, .int .i64 0, .slice (some ⟨g, 0, none⟩) 1 1, .slice none 0 0] 52)).alloc (.cells #[.int .i64 k2, .int .i64 o2] 23)).drewN n) (fun i _ => (1 - intOf i).toNat)
          case atStart => exact ⟨.inl rfl, 0, rfl⟩
          case round =>
            obtain ⟨hi, n, rfl⟩ := hrel
            rcases hi with rfl | ⟨rfl, h5⟩
            · go_wp2
              go_region_held3 (fun w' => w'.cell? ⟨w.heap.size, 8, none⟩ = some (.slice (some ⟨g, 0, none⟩) 1 1) ∧ w'.cell? ⟨g, 0, none⟩ = some (.int .i64 ek) ∧ w'.cell? ⟨w.heap.size + 1, 1, none⟩ = some (.int .i64 o2)) (first | (simp [go_sem]; done) | go_keep) (fail)
              all_goals
                go_wp2
                go_roundw
                case rel => exact ⟨.inr ⟨rfl, h4⟩, _, rfl⟩
                case measure => simp [intOf]
            · clear h5
              go_wp2
              go_ret
              exact ⟨rfl, by (repeat' (first | (with_reducible exact Below.refl _ _) | (with_reducible assumption) | (with_reducible refine Below.alloc ?_ ?_ _) | (with_reducible refine below_drewN ?_ _) | (with_reducible refine below_drew ?_) | (with_reducible refine below_ext ?_ ?_ _ _) | (with_reducible refine Below.setCell ?_ ?_ _) | (simp; done) | (simp; omega) | omega))⟩
      · have n3 : (o2 != 0) = false := by rw [bne, h3]; rfl
        go_enter Tryd.func23, Tryd.ntmps23
        go_wp2
        go_loopw [5] (fun i wr => i = .int .i64 0 ∧ wr = (w.alloc (.cells #[.int .i64 5, .bool false, .bool false, .int .u64 0, .int .u64 0, .int .i64 0, .string ⟨#[]⟩, .int .i64 0, .slice (some ⟨g, 0, none⟩) 1 1, .slice none 0 0] 52)).alloc (.cells #[.int .i64 k2, .int .i64 o2] 23)) (fun _ _ => 0)
        case atStart => exact ⟨rfl, rfl⟩
        case round =>
          obtain ⟨rfl, rfl⟩ := hrel
          go_wp2
          go_ret
          exact ⟨rfl, by (repeat' (first | (with_reducible exact Below.refl _ _) | (with_reducible assumption) | (with_reducible refine Below.alloc ?_ ?_ _) | (with_reducible refine below_drewN ?_ _) | (with_reducible refine below_drew ?_) | (with_reducible refine below_ext ?_ ?_ _ _) | (with_reducible refine Below.setCell ?_ ?_ _) | (simp; done) | (simp; omega) | omega))⟩
  · go_enter Tryd.func23, Tryd.ntmps23
    go_wp2
    go_ret
    exact ⟨rfl, by (repeat' (first | (with_reducible exact Below.refl _ _) | (with_reducible assumption) | (with_reducible refine Below.alloc ?_ ?_ _) | (with_reducible refine below_drewN ?_ _) | (with_reducible refine below_drew ?_) | (with_reducible refine below_ext ?_ ?_ _ _) | (with_reducible refine Below.setCell ?_ ?_ _) | (simp; done) | (simp; omega) | omega))⟩
end Go.Proofs.YtcnkcfbodpkllabDoor
