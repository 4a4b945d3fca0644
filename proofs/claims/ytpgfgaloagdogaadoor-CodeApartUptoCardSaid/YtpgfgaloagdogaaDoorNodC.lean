/-
  A choice of three is an expression.
-/
import Derived.Test.YtpgfgaloagdogaaDoorNodB
import Derived.Deep.RegionLaw
import Derived.Deep.CutRange
import Derived.Deep.CutBlock
import Derived.Deep.DeepCutAuto
namespace Go.Proofs.YtpgfgaloagdogaaDoor
open Go.RowKit Go.Maps Go.WideMaps
attribute [local go_sem] setCell_drewN cell?_ext frozen?_ext shape?_ext setCell_ext lt_1' ne_1' en_1' le_1' lt_2' ne_2' en_2' le_2' lt_3' ne_3' en_3' le_3' lt_4' ne_4' en_4' le_4' lt_5' ne_5' en_5' le_5' lt_6' ne_6' en_6' le_6' lt_7' ne_7' en_7' le_7' lt_8' ne_8' en_8' le_8' lt_9' ne_9' en_9' le_9' lt_10' ne_10' en_10' le_10' lt_11' ne_11' en_11' le_11' lt_12' ne_12' en_12' le_12'

/-- the items complete behind k nodes -/
abbrev doneC : Nat → List (Nat × Nat) := fun k => if k = 0 then [] else if k = 1 then [(0, 1)] else if k = 2 then [(0, 1), (1, 1)] else if k = 3 then [(0, 1), (1, 1), (2, 1)] else [(3, 2)]
abbrev deepC : Nat → Int := fun k => if k = 0 then 0 else if k = 4 then 2 else 1
set_option maxRecDepth 100000 in
set_option maxHeartbeats 8000000 in
theorem measure_choice {g : Nat} {w : World} (h : ChC w g) :
    Calls Tryd.prog 32 #[.slice (some ⟨g, 0, none⟩) 4 4] w fun e w' => e = .returned (.tuple #[.int .i64 2, .bool true]) ∧ Below w.heap.size w w' := by
  have HC := Lib.hid h
  have HD0 := Lib.hid (OL.nil itK itE w.heap.size w)
  have HB0 := Lib.hid (Below.refl w.heap.size w)
  clear h
  go_enter Tryd.func32, Tryd.ntmps32
  go_wp2
  go_loopw [4, 5, 14] (fun x y z wr => ∃ k : Nat, z = .int .i64 k ∧ k ≤ 4 ∧ y = .int .i64 (deepC k) ∧ Hid (OL itK itE w.heap.size wr x (doneC k)) ∧ Hid (Below w.heap.size w wr)) (fun _ _ z _ => 4 - (intOf z).toNat)
  case atStart => exact ⟨0, rfl, by omega, rfl, HD0, HB0⟩
  case round =>
    obtain ⟨k, rfl, hk, hy, hol, hbe⟩ := hrel
    clear HD0 HB0
    have hk4 : k = 0 ∨ k = 1 ∨ k = 2 ∨ k = 3 ∨ k = 4 := by omega
    have HCR := Lib.hid (HC.out.new hbe.out)
    have hgr := HCR.out.1
    have hsw := hbe.out.size
    have HBR := Lib.hid hbe.out
    obtain ⟨q, cp, hv, hq, hcp⟩ := OL.form hol.out
    have HOWN := Lib.hid (show ∀ n k2, (Value.slice q n cp).ownBlock = some k2 → w.heap.size ≤ k2 from fun n k2 h2 => (World.ownsRow.lt hol.out k2 (by rw [hv]; cases q <;> exact h2)).1)
    have HOL := Lib.hid (show ∀ n, (doneC k).length = n → OL itK itE w.heap.size wr (.slice q n cp) (doneC k) from fun n hn => by rw [← hn, ← hv]; exact hol.out)
    rcases hk4 with rfl | rfl | rfl | rfl | rfl
    · obtain rfl : u4 = .slice q 0 cp := hv
      obtain rfl : u5 = .int .i64 0 := hy
      obtain ⟨n0, n1, n2, n3, n4, n5, n6, n7⟩ := HCR.out.2 0 (by omega)
      have m0 : wr.cell? ⟨g, 0, none⟩ = some (.int .i64 2) := n0
      have m1 : wr.cell? ⟨g, 1, none⟩ = some (.int .i64 0) := n1
      have m2 : wr.cell? ⟨g, 2, none⟩ = some (.string ⟨#[]⟩) := n2
      have m3 : wr.cell? ⟨g, 3, none⟩ = some (.bool false) := n3
      have m4 : wr.cell? ⟨g, 4, none⟩ = some (.int .u64 0) := n4
      have m5 : wr.cell? ⟨g, 5, none⟩ = some (.int .u64 0) := n5
      have m6 : wr.cell? ⟨g, 6, none⟩ = some (.int .i64 0) := n6
      have m7 : wr.cell? ⟨g, 7, none⟩ = some (.int .i64 0) := n7
      clear n0 n1 n2 n3 n4 n5 n6 n7
      have HT := Lib.hid (show ∀ w, Calls Tryd.prog 47 #[.int .i64 2, .int .i64 0] w fun e w' => e = .returned (.bool true) ∧ w' = w from fun w => etakes_any 2 0 w)
      have HF := Lib.hid (fun w => filled_bare 2 0 (by omega) w)
      have HS := Lib.hid (fun v p c w => suited_nil 2 (by omega) v p c w)
      go_upto_region 7 with fail
      go_region_held3 (fun w' => w'.cell? ⟨wr.heap.size, 0, none⟩ = some (.int .i64 2) ∧ w'.cell? ⟨wr.heap.size, 1, none⟩ = some (.int .i64 0) ∧ w'.cell? ⟨wr.heap.size, 2, none⟩ = some (.string ⟨#[]⟩) ∧ w'.cell? ⟨wr.heap.size, 3, none⟩ = some (.bool false) ∧ w'.cell? ⟨wr.heap.size, 4, none⟩ = some (.int .u64 0) ∧ w'.cell? ⟨wr.heap.size, 5, none⟩ = some (.int .u64 0) ∧ w'.cell? ⟨wr.heap.size, 6, none⟩ = some (.int .i64 0) ∧ w'.cell? ⟨wr.heap.size, 7, none⟩ = some (.int .i64 0)) (simp [go_sem]) (first
        | (go_at_call 47; ((with_reducible refine (HT.out _).mono ?_); rintro e w' ⟨rfl, rfl⟩))
        | (go_at_call 48; ((with_reducible refine (HF.out _).mono ?_); rintro e w1 ⟨rfl, hb1⟩; obtain ⟨osF, dF, rfl⟩ := ext_of_below hb1; clear hb1))
        | (go_at_call 49; ((with_reducible refine (HS.out _ _ _ _).mono ?_); rintro e w1 ⟨rfl, hb1⟩; obtain ⟨osS, dS, rfl⟩ := ext_of_below hb1; clear hb1)))
      all_goals
        go_wp2
        refine wp_loop_rounds 1 ?_
        rw [rounds_succ]
        go_wp2_with (first
          | (at_builtin; refine wpList_append_ol itK_ok itE_cells rfl _ _ rfl rfl _ (0, 1) rfl (OL.new (HOL.out 0 rfl) (by (repeat' (first | (with_reducible exact Below.refl _ _) | (with_reducible assumption) | (with_reducible refine Below.alloc ?_ ?_ _) | (with_reducible refine below_drewN ?_ _) | (with_reducible refine below_drew ?_) | (with_reducible refine below_ext ?_ ?_ _ _) | (with_reducible refine Below.setCell ?_ ?_ _) | (simp; done) | (simp; omega) | omega)))) (by simp [Act.eval]) (by decide) (by (repeat' (first | (with_reducible exact Below.refl _ _) | (with_reducible assumption) | (with_reducible refine Below.alloc ?_ ?_ _) | (with_reducible refine below_drewN ?_ _) | (with_reducible refine below_drew ?_) | (with_reducible refine below_ext ?_ ?_ _ _) | (with_reducible refine Below.setCell ?_ ?_ _) | (simp; done) | (simp; omega) | omega))) ?_; intro g2 cap2 w2 hob3 hoth hat hg2 hsz2; have HO2 := Lib.hid (show OL itK itE w.heap.size w2 (.slice (some ⟨g2, 0, none⟩) 1 cap2) (doneC 1) from hob3); have HB2 := Lib.hid ((HBR.out.trans (show Below w.heap.size wr _ by (repeat' (first | (with_reducible exact Below.refl _ _) | (with_reducible assumption) | (with_reducible refine Below.alloc ?_ ?_ _) | (with_reducible refine below_drewN ?_ _) | (with_reducible refine below_drew ?_) | (with_reducible refine below_ext ?_ ?_ _ _) | (with_reducible refine Below.setCell ?_ ?_ _) | (simp; done) | (simp; omega) | omega)))).trans (hoth.below (by first | omega | (simp; omega)) (fun k hk => HOWN.out _ k hk))); clear hob3 hoth hat hg2 hsz2))
        go_roundw
        case rel => exact ⟨1, rfl, by omega, rfl, HO2, HB2⟩
        case measure => simp [intOf]
    · obtain rfl : u4 = .slice q 1 cp := hv
      obtain rfl : u5 = .int .i64 1 := hy
      obtain ⟨n0, n1, n2, n3, n4, n5, n6, n7⟩ := HCR.out.2 1 (by omega)
      have m0 : wr.cell? ⟨g, 8, none⟩ = some (.int .i64 1) := n0
      have m1 : wr.cell? ⟨g, 9, none⟩ = some (.int .i64 0) := n1
      have m2 : wr.cell? ⟨g, 10, none⟩ = some (.string ⟨#[]⟩) := n2
      have m3 : wr.cell? ⟨g, 11, none⟩ = some (.bool false) := n3
      have m4 : wr.cell? ⟨g, 12, none⟩ = some (.int .u64 0) := n4
      have m5 : wr.cell? ⟨g, 13, none⟩ = some (.int .u64 0) := n5
      have m6 : wr.cell? ⟨g, 14, none⟩ = some (.int .i64 0) := n6
      have m7 : wr.cell? ⟨g, 15, none⟩ = some (.int .i64 0) := n7
      clear n0 n1 n2 n3 n4 n5 n6 n7
      have HT := Lib.hid (show ∀ w, Calls Tryd.prog 47 #[.int .i64 1, .int .i64 0] w fun e w' => e = .returned (.bool true) ∧ w' = w from fun w => etakes_any 1 0 w)
      have HF := Lib.hid (fun w => filled_bare 1 0 (by omega) w)
      have HS := Lib.hid (fun v p c w => suited_nil 1 (by omega) v p c w)
      obtain ⟨gd, rfl, hgd1, hgd2⟩ := hq (by decide)
      have hcp2 : 1 ≤ cp := hcp
      have hcc : cp = 1 ∨ (1 < cp ∧ ¬ cp = 1) := by omega
      rcases hcc with rfl | ⟨hcc, hcc2⟩
      all_goals
        go_upto_region 7 with fail
        go_region_held3 (fun w' => w'.cell? ⟨wr.heap.size, 0, none⟩ = some (.int .i64 1) ∧ w'.cell? ⟨wr.heap.size, 1, none⟩ = some (.int .i64 0) ∧ w'.cell? ⟨wr.heap.size, 2, none⟩ = some (.string ⟨#[]⟩) ∧ w'.cell? ⟨wr.heap.size, 3, none⟩ = some (.bool false) ∧ w'.cell? ⟨wr.heap.size, 4, none⟩ = some (.int .u64 0) ∧ w'.cell? ⟨wr.heap.size, 5, none⟩ = some (.int .u64 0) ∧ w'.cell? ⟨wr.heap.size, 6, none⟩ = some (.int .i64 0) ∧ w'.cell? ⟨wr.heap.size, 7, none⟩ = some (.int .i64 0)) (simp [go_sem]) (first
          | (go_at_call 47; ((with_reducible refine (HT.out _).mono ?_); rintro e w' ⟨rfl, rfl⟩))
          | (go_at_call 48; ((with_reducible refine (HF.out _).mono ?_); rintro e w1 ⟨rfl, hb1⟩; obtain ⟨osF, dF, rfl⟩ := ext_of_below hb1; clear hb1))
          | (go_at_call 49; ((with_reducible refine (HS.out _ _ _ _).mono ?_); rintro e w1 ⟨rfl, hb1⟩; obtain ⟨osS, dS, rfl⟩ := ext_of_below hb1; clear hb1)))
        all_goals
          go_wp2
          refine wp_loop_rounds 1 ?_
          rw [rounds_succ]
          go_wp2_with (first
            | (at_builtin; refine wpList_append_ol itK_ok itE_cells rfl _ _ rfl rfl _ (1, 1) rfl (OL.new (HOL.out 1 rfl) (by (repeat' (first | (with_reducible exact Below.refl _ _) | (with_reducible assumption) | (with_reducible refine Below.alloc ?_ ?_ _) | (with_reducible refine below_drewN ?_ _) | (with_reducible refine below_drew ?_) | (with_reducible refine below_ext ?_ ?_ _ _) | (with_reducible refine Below.setCell ?_ ?_ _) | (simp; done) | (simp; omega) | omega)))) (by simp [Act.eval]) (by decide) (by (repeat' (first | (with_reducible exact Below.refl _ _) | (with_reducible assumption) | (with_reducible refine Below.alloc ?_ ?_ _) | (with_reducible refine below_drewN ?_ _) | (with_reducible refine below_drew ?_) | (with_reducible refine below_ext ?_ ?_ _ _) | (with_reducible refine Below.setCell ?_ ?_ _) | (simp; done) | (simp; omega) | omega))) ?_; intro g2 cap2 w2 hob3 hoth hat hg2 hsz2; have HO2 := Lib.hid (show OL itK itE w.heap.size w2 (.slice (some ⟨g2, 0, none⟩) 2 cap2) (doneC 2) from hob3); have HB2 := Lib.hid ((HBR.out.trans (show Below w.heap.size wr _ by (repeat' (first | (with_reducible exact Below.refl _ _) | (with_reducible assumption) | (with_reducible refine Below.alloc ?_ ?_ _) | (with_reducible refine below_drewN ?_ _) | (with_reducible refine below_drew ?_) | (with_reducible refine below_ext ?_ ?_ _ _) | (with_reducible refine Below.setCell ?_ ?_ _) | (simp; done) | (simp; omega) | omega)))).trans (hoth.below (by first | omega | (simp; omega)) (fun k hk => HOWN.out _ k hk))); clear hob3 hoth hat hg2 hsz2))
          go_roundw
          case rel => exact ⟨2, rfl, by omega, rfl, HO2, HB2⟩
          case measure => simp [intOf]
    · obtain rfl : u4 = .slice q 2 cp := hv
      obtain rfl : u5 = .int .i64 1 := hy
      obtain ⟨n0, n1, n2, n3, n4, n5, n6, n7⟩ := HCR.out.2 2 (by omega)
      have m0 : wr.cell? ⟨g, 16, none⟩ = some (.int .i64 3) := n0
      have m1 : wr.cell? ⟨g, 17, none⟩ = some (.int .i64 0) := n1
      have m2 : wr.cell? ⟨g, 18, none⟩ = some (.string ⟨#[]⟩) := n2
      have m3 : wr.cell? ⟨g, 19, none⟩ = some (.bool false) := n3
      have m4 : wr.cell? ⟨g, 20, none⟩ = some (.int .u64 0) := n4
      have m5 : wr.cell? ⟨g, 21, none⟩ = some (.int .u64 0) := n5
      have m6 : wr.cell? ⟨g, 22, none⟩ = some (.int .i64 0) := n6
      have m7 : wr.cell? ⟨g, 23, none⟩ = some (.int .i64 0) := n7
      clear n0 n1 n2 n3 n4 n5 n6 n7
      have HT := Lib.hid (show ∀ w, Calls Tryd.prog 47 #[.int .i64 3, .int .i64 0] w fun e w' => e = .returned (.bool true) ∧ w' = w from fun w => etakes_any 3 0 w)
      have HF := Lib.hid (fun w => filled_bare 3 0 (by omega) w)
      have HS := Lib.hid (fun v p c w => suited_nil 3 (by omega) v p c w)
      obtain ⟨gd, rfl, hgd1, hgd2⟩ := hq (by decide)
      have hcp2 : 2 ≤ cp := hcp
      have hcc : cp = 2 ∨ (2 < cp ∧ ¬ cp = 2) := by omega
      rcases hcc with rfl | ⟨hcc, hcc2⟩
      all_goals
        go_upto_region 7 with fail
        go_region_held3 (fun w' => w'.cell? ⟨wr.heap.size, 0, none⟩ = some (.int .i64 3) ∧ w'.cell? ⟨wr.heap.size, 1, none⟩ = some (.int .i64 0) ∧ w'.cell? ⟨wr.heap.size, 2, none⟩ = some (.string ⟨#[]⟩) ∧ w'.cell? ⟨wr.heap.size, 3, none⟩ = some (.bool false) ∧ w'.cell? ⟨wr.heap.size, 4, none⟩ = some (.int .u64 0) ∧ w'.cell? ⟨wr.heap.size, 5, none⟩ = some (.int .u64 0) ∧ w'.cell? ⟨wr.heap.size, 6, none⟩ = some (.int .i64 0) ∧ w'.cell? ⟨wr.heap.size, 7, none⟩ = some (.int .i64 0)) (simp [go_sem]) (first
          | (go_at_call 47; ((with_reducible refine (HT.out _).mono ?_); rintro e w' ⟨rfl, rfl⟩))
          | (go_at_call 48; ((with_reducible refine (HF.out _).mono ?_); rintro e w1 ⟨rfl, hb1⟩; obtain ⟨osF, dF, rfl⟩ := ext_of_below hb1; clear hb1))
          | (go_at_call 49; ((with_reducible refine (HS.out _ _ _ _).mono ?_); rintro e w1 ⟨rfl, hb1⟩; obtain ⟨osS, dS, rfl⟩ := ext_of_below hb1; clear hb1)))
        all_goals
          go_wp2
          refine wp_loop_rounds 1 ?_
          rw [rounds_succ]
          go_wp2_with (first
            | (at_builtin; refine wpList_append_ol itK_ok itE_cells rfl _ _ rfl rfl _ (2, 1) rfl (OL.new (HOL.out 2 rfl) (by (repeat' (first | (with_reducible exact Below.refl _ _) | (with_reducible assumption) | (with_reducible refine Below.alloc ?_ ?_ _) | (with_reducible refine below_drewN ?_ _) | (with_reducible refine below_drew ?_) | (with_reducible refine below_ext ?_ ?_ _ _) | (with_reducible refine Below.setCell ?_ ?_ _) | (simp; done) | (simp; omega) | omega)))) (by simp [Act.eval]) (by decide) (by (repeat' (first | (with_reducible exact Below.refl _ _) | (with_reducible assumption) | (with_reducible refine Below.alloc ?_ ?_ _) | (with_reducible refine below_drewN ?_ _) | (with_reducible refine below_drew ?_) | (with_reducible refine below_ext ?_ ?_ _ _) | (with_reducible refine Below.setCell ?_ ?_ _) | (simp; done) | (simp; omega) | omega))) ?_; intro g2 cap2 w2 hob3 hoth hat hg2 hsz2; have HO2 := Lib.hid (show OL itK itE w.heap.size w2 (.slice (some ⟨g2, 0, none⟩) 3 cap2) (doneC 3) from hob3); have HB2 := Lib.hid ((HBR.out.trans (show Below w.heap.size wr _ by (repeat' (first | (with_reducible exact Below.refl _ _) | (with_reducible assumption) | (with_reducible refine Below.alloc ?_ ?_ _) | (with_reducible refine below_drewN ?_ _) | (with_reducible refine below_drew ?_) | (with_reducible refine below_ext ?_ ?_ _ _) | (with_reducible refine Below.setCell ?_ ?_ _) | (simp; done) | (simp; omega) | omega)))).trans (hoth.below (by first | omega | (simp; omega)) (fun k hk => HOWN.out _ k hk))); clear hob3 hoth hat hg2 hsz2))
          go_roundw
          case rel => exact ⟨3, rfl, by omega, rfl, HO2, HB2⟩
          case measure => simp [intOf]
    · obtain rfl : u4 = .slice q 3 cp := hv
      obtain rfl : u5 = .int .i64 1 := hy
      obtain ⟨n0, n1, n2, n3, n4, n5, n6, n7⟩ := HCR.out.2 3 (by omega)
      have m0 : wr.cell? ⟨g, 24, none⟩ = some (.int .i64 21) := n0
      have m1 : wr.cell? ⟨g, 25, none⟩ = some (.int .i64 3) := n1
      have m2 : wr.cell? ⟨g, 26, none⟩ = some (.string ⟨#[]⟩) := n2
      have m3 : wr.cell? ⟨g, 27, none⟩ = some (.bool false) := n3
      have m4 : wr.cell? ⟨g, 28, none⟩ = some (.int .u64 0) := n4
      have m5 : wr.cell? ⟨g, 29, none⟩ = some (.int .u64 0) := n5
      have m6 : wr.cell? ⟨g, 30, none⟩ = some (.int .i64 0) := n6
      have m7 : wr.cell? ⟨g, 31, none⟩ = some (.int .i64 0) := n7
      clear n0 n1 n2 n3 n4 n5 n6 n7
      have HT := Lib.hid (show ∀ w, Calls Tryd.prog 47 #[.int .i64 21, .int .i64 3] w fun e w' => e = .returned (.bool true) ∧ w' = w from fun w => etakes_any 21 3 w)
      have HF := Lib.hid (fun w => filled_bare 21 3 (by omega) w)
      obtain ⟨gd, rfl, hgd1, hgd2⟩ := hq (by decide)
      have HS := Lib.hid (fun w' (hb : Below wr.heap.size wr w') => suited_three (HCR.out.new hb) (OL.new hol.out hb))
      go_upto_region 7 with fail
      go_region_held3 (fun w' => w'.cell? ⟨wr.heap.size, 0, none⟩ = some (.int .i64 21) ∧ w'.cell? ⟨wr.heap.size, 1, none⟩ = some (.int .i64 3) ∧ w'.cell? ⟨wr.heap.size, 2, none⟩ = some (.string ⟨#[]⟩) ∧ w'.cell? ⟨wr.heap.size, 3, none⟩ = some (.bool false) ∧ w'.cell? ⟨wr.heap.size, 4, none⟩ = some (.int .u64 0) ∧ w'.cell? ⟨wr.heap.size, 5, none⟩ = some (.int .u64 0) ∧ w'.cell? ⟨wr.heap.size, 6, none⟩ = some (.int .i64 0) ∧ w'.cell? ⟨wr.heap.size, 7, none⟩ = some (.int .i64 0)) (simp [go_sem]) (first
        | (go_at_call 47; ((with_reducible refine (HT.out _).mono ?_); rintro e w' ⟨rfl, rfl⟩))
        | (go_at_call 48; ((with_reducible refine (HF.out _).mono ?_); rintro e w1 ⟨rfl, hb1⟩; obtain ⟨osF, dF, rfl⟩ := ext_of_below hb1; clear hb1))
        | (go_at_call 49; ((with_reducible refine (HS.out _ (by (repeat' (first | (with_reducible exact Below.refl _ _) | (with_reducible assumption) | (with_reducible refine Below.alloc ?_ ?_ _) | (with_reducible refine below_drewN ?_ _) | (with_reducible refine below_drew ?_) | (with_reducible refine below_ext ?_ ?_ _ _) | (with_reducible refine Below.setCell ?_ ?_ _) | (simp; done) | (simp; omega) | omega)))).mono ?_); rintro e w1 ⟨rfl, hb1⟩; obtain ⟨osS, dS, rfl⟩ := ext_of_below hb1; clear hb1)))
      all_goals
        have HIT := Lib.hid (fun w' (hb : Below wr.heap.size wr w') j (hj : j < 3) => (⟨OL.cell itE_cells (OL.new (HOL.out 3 rfl) hb) j 0 hj rfl, OL.cell itE_cells (OL.new (HOL.out 3 rfl) hb) j 1 hj rfl⟩ : w'.cell? ⟨gd, j * itK.size + 0, none⟩ = some (.int .i64 (([(0, 1), (1, 1), (2, 1)] : List (Nat × Nat))[j]'hj).1) ∧ w'.cell? ⟨gd, j * itK.size + 1, none⟩ = some (.int .i64 (([(0, 1), (1, 1), (2, 1)] : List (Nat × Nat))[j]'hj).2)))
        have HOL3 := Lib.hid (fun w' (hb : Below wr.heap.size wr w') => OL.take (m := 0) itE_cells (OL.new (HOL.out 3 rfl) hb) (by decide))
        have hcp3 : 3 ≤ cp := hcp
        have hcp4 : ¬ cp = 0 := by omega
        have hcp5 : 0 < cp := by omega
        go_wp2
        go_loopw [9, 53] (fun d z wq => ∃ j : Nat, z = .int .i64 j ∧ j ≤ 3 ∧ d = .int .i64 (if j = 0 then 1 else 2) ∧ Hid (Below wr.heap.size wr wq)) (fun _ z _ => 3 - (intOf z).toNat)
        case atStart => exact ⟨0, rfl, by omega, rfl, Lib.hid (by (repeat' (first | (with_reducible exact Below.refl _ _) | (with_reducible assumption) | (with_reducible refine Below.alloc ?_ ?_ _) | (with_reducible refine below_drewN ?_ _) | (with_reducible refine below_drew ?_) | (with_reducible refine below_ext ?_ ?_ _ _) | (with_reducible refine Below.setCell ?_ ?_ _) | (simp; done) | (simp; omega) | omega)))⟩
        case round =>
          obtain ⟨j, rfl, hj, hd, hbq⟩ := hrel
          have hj4 : j = 0 ∨ j = 1 ∨ j = 2 ∨ j = 3 := by omega
          have hswq := hbq.out.size
          rcases hj4 with rfl | rfl | rfl | rfl
          · obtain rfl : u9 = .int .i64 1 := hd
            have i0 : wr.cell? ⟨gd, 0, none⟩ = some (.int .i64 0) := (HIT.out _ hbq.out 0 (by omega)).1
            have i1 : wr.cell? ⟨gd, 1, none⟩ = some (.int .i64 1) := (HIT.out _ hbq.out 0 (by omega)).2
            go_wp2
            go_roundw
            case rel => exact ⟨1, rfl, by omega, rfl, Lib.hid (hbq.out.trans (by (repeat' (first | (with_reducible exact Below.refl _ _) | (with_reducible assumption) | (with_reducible refine Below.alloc ?_ ?_ _) | (with_reducible refine below_drewN ?_ _) | (with_reducible refine below_drew ?_) | (with_reducible refine below_ext ?_ ?_ _ _) | (with_reducible refine Below.setCell ?_ ?_ _) | (simp; done) | (simp; omega) | omega))))⟩
            case measure => simp [intOf]
          · obtain rfl : u9 = .int .i64 2 := hd
            have i0 : wr.cell? ⟨gd, 2, none⟩ = some (.int .i64 1) := (HIT.out _ hbq.out 1 (by omega)).1
            have i1 : wr.cell? ⟨gd, 3, none⟩ = some (.int .i64 1) := (HIT.out _ hbq.out 1 (by omega)).2
            go_wp2
            go_roundw
            case rel => exact ⟨2, rfl, by omega, rfl, Lib.hid (hbq.out.trans (by (repeat' (first | (with_reducible exact Below.refl _ _) | (with_reducible assumption) | (with_reducible refine Below.alloc ?_ ?_ _) | (with_reducible refine below_drewN ?_ _) | (with_reducible refine below_drew ?_) | (with_reducible refine below_ext ?_ ?_ _ _) | (with_reducible refine Below.setCell ?_ ?_ _) | (simp; done) | (simp; omega) | omega))))⟩
            case measure => simp [intOf]
          · obtain rfl : u9 = .int .i64 2 := hd
            have i0 : wr.cell? ⟨gd, 4, none⟩ = some (.int .i64 2) := (HIT.out _ hbq.out 2 (by omega)).1
            have i1 : wr.cell? ⟨gd, 5, none⟩ = some (.int .i64 1) := (HIT.out _ hbq.out 2 (by omega)).2
            go_wp2
            go_roundw
            case rel => exact ⟨3, rfl, by omega, rfl, Lib.hid (hbq.out.trans (by (repeat' (first | (with_reducible exact Below.refl _ _) | (with_reducible assumption) | (with_reducible refine Below.alloc ?_ ?_ _) | (with_reducible refine below_drewN ?_ _) | (with_reducible refine below_drew ?_) | (with_reducible refine below_ext ?_ ?_ _ _) | (with_reducible refine Below.setCell ?_ ?_ _) | (simp; done) | (simp; omega) | omega))))⟩
            case measure => simp [intOf]
          · obtain rfl : u9 = .int .i64 2 := hd
            go_wp2_with (first
              | (at_builtin; refine wpList_append_ol itK_ok itE_cells rfl _ _ rfl rfl _ (3, 2) rfl (HOL3.out _ (hbq.out.trans (by (repeat' (first | (with_reducible exact Below.refl _ _) | (with_reducible assumption) | (with_reducible refine Below.alloc ?_ ?_ _) | (with_reducible refine below_drewN ?_ _) | (with_reducible refine below_drew ?_) | (with_reducible refine below_ext ?_ ?_ _ _) | (with_reducible refine Below.setCell ?_ ?_ _) | (simp; done) | (simp; omega) | omega))))) (by simp [Act.eval]) (by decide) (by (repeat' (first | (with_reducible exact Below.refl _ _) | (with_reducible assumption) | (with_reducible refine Below.alloc ?_ ?_ _) | (with_reducible refine below_drewN ?_ _) | (with_reducible refine below_drew ?_) | (with_reducible refine below_ext ?_ ?_ _ _) | (with_reducible refine Below.setCell ?_ ?_ _) | (simp; done) | (simp; omega) | omega))) ?_; intro g2 cap2 w2 hob3 hoth hat hg2 hsz2; have HO2 := Lib.hid (show OL itK itE w.heap.size w2 (.slice (some ⟨g2, 0, none⟩) 1 cap2) (doneC 4) from hob3); have HB2 := Lib.hid ((HBR.out.trans ((hbq.out.mono hsw).trans (show Below w.heap.size wr _ by (repeat' (first | (with_reducible exact Below.refl _ _) | (with_reducible assumption) | (with_reducible refine Below.alloc ?_ ?_ _) | (with_reducible refine below_drewN ?_ _) | (with_reducible refine below_drew ?_) | (with_reducible refine below_ext ?_ ?_ _ _) | (with_reducible refine Below.setCell ?_ ?_ _) | (simp; done) | (simp; omega) | omega))))).trans (hoth.below (by first | omega | (simp; omega)) (fun k hk => HOWN.out _ k hk))); clear hob3 hoth hat hg2 hsz2))
            go_roundw
            case rel => exact ⟨4, rfl, by omega, rfl, HO2, HB2⟩
            case measure => simp [intOf]
    · obtain rfl : u4 = .slice q 1 cp := hv
      obtain rfl : u5 = .int .i64 2 := hy
      go_wp2
      go_ret2
      exact ⟨rfl, HBR.out⟩
theorem whole_21 (w : World) : Calls Tryd.prog 33 #[.int .i64 21, .bool false] w fun e w' => e = .returned (.bool true) ∧ w' = w := by
  have HR := Lib.hid (show ∀ w, Calls Tryd.prog 50 #[.int .i64 21] w fun e w' => e = .returned (.int .i64 0) ∧ w' = w from fun w => role_any 21 w)
  go_enter Tryd.func33, Tryd.ntmps33
  go_wp2_with (first
    | (go_at_call 50; ((with_reducible refine (HR.out _).mono ?_); rintro e w' ⟨rfl, rfl⟩)))
  go_ret
  exact ⟨rfl, rfl⟩
set_option maxRecDepth 100000 in
theorem echeck_choice {g : Nat} {w : World} (h : ChC w g) :
    Calls Tryd.prog 19 #[.slice (some ⟨g, 0, none⟩) 4 4, .bool false] w fun e w' => e = .returned (.int .i64 0) ∧ Below w.heap.size w w' := by
  have HM := Lib.hid (fun w' (hb : Below w.heap.size w w') => measure_choice (h.new hb))
  have hg := h.1
  have x0 : w.cell? ⟨g, 24, none⟩ = some (.int .i64 21) := (h.2 3 (by omega)).1
  have HR := Lib.hid whole_21
  clear h
  go_enter Tryd.func19, Tryd.ntmps19
  go_wp2_with (first
    | (go_at_call 32; ((with_reducible refine (HM.out _ (by (repeat' (first | (with_reducible exact Below.refl _ _) | (with_reducible assumption) | (with_reducible refine Below.alloc ?_ ?_ _) | (with_reducible refine below_drewN ?_ _) | (with_reducible refine below_drew ?_) | (with_reducible refine below_ext ?_ ?_ _ _) | (with_reducible refine Below.setCell ?_ ?_ _) | (simp; done) | (simp; omega) | omega)))).mono ?_); rintro e w1 ⟨rfl, hb1⟩; obtain ⟨osA, dA, rfl⟩ := ext_of_below hb1; clear hb1))
    | (go_at_call 33; ((with_reducible refine (HR.out _).mono ?_); rintro e w' ⟨rfl, rfl⟩)))
  go_ret
  exact ⟨rfl, by (repeat' (first | (with_reducible exact Below.refl _ _) | (with_reducible assumption) | (with_reducible refine Below.alloc ?_ ?_ _) | (with_reducible refine below_drewN ?_ _) | (with_reducible refine below_drew ?_) | (with_reducible refine below_ext ?_ ?_ _ _) | (with_reducible refine Below.setCell ?_ ?_ _) | (simp; done) | (simp; omega) | omega))⟩
end Go.Proofs.YtpgfgaloagdogaaDoor
