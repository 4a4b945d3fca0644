/-
  The parts of a choice: their last places.
-/
import Derived.Test.YtpgfgaloagdogaaDoorNodC
namespace Go.Proofs.YtpgfgaloagdogaaDoor
open Go.RowKit Go.Maps Go.WideMaps
attribute [local go_sem] setCell_drewN cell?_ext frozen?_ext shape?_ext setCell_ext lt_1' ne_1' en_1' le_1' lt_2' ne_2' en_2' le_2' lt_3' ne_3' en_3' le_3' lt_4' ne_4' en_4' le_4' lt_5' ne_5' en_5' le_5' lt_6' ne_6' en_6' le_6' lt_7' ne_7' en_7' le_7' lt_8' ne_8' en_8' le_8' lt_9' ne_9' en_9' le_9' lt_10' ne_10' en_10' le_10' lt_11' ne_11' en_11' le_11' lt_12' ne_12' en_12' le_12'

/-- ints of the call's own -/
def inK : El := { T := 3, S := 52, size := 1, bytes := 8, zero := .int .i64 0 }
theorem inK_ok : inK.Ok Tryd.prog := ⟨Tryd.underlying52, by kernel_rfl, by rfl, by decide, by decide, by decide⟩
def inE (s : Nat) : List Value := [.int .i64 (s : Int)]
theorem inE_cells : Cells inK inE := fun s => ⟨rfl, fun u hu => by
  unfold inE at hu
  rw [List.mem_singleton] at hu
  rw [hu]; rfl⟩
abbrev doneP : Nat → List Nat := fun k => if k = 0 then [] else if k = 1 then [0] else if k = 2 then [0, 1] else if k = 3 then [0, 1, 2] else [3]
set_option maxRecDepth 100000 in
theorem clone_nil (w : World) : Calls Tryd.prog 66 #[.slice none 0 0] w fun e w' => e = .returned (.slice none 0 0) ∧ w' = w := by
  have he0 : ∀ (c : Nat) (w : World), (binOp .eql 52 (.slice none 0 c) (.slice none 0 0)).run Tryd.prog w = .ok (.bool true) w := fun _ _ => rfl
  have he := he0 0
  go_enter Tryd.func66, Tryd.ntmps66
  go_wp2
  go_ret
  exact ⟨rfl, rfl⟩
set_option maxRecDepth 100000 in
theorem clone_some (g o c : Nat) (l : List Nat) (w : World) (hg : g < w.heap.size) (hl : l.length ≤ 1000000) (hc : ∀ j (h : j < l.length), w.cell? ⟨g, o + j, none⟩ = some (.int .i64 (l[j] : Int))) :
    Calls Tryd.prog 66 #[.slice (some ⟨g, o, none⟩) l.length c] w fun e w' => ∃ v', e = .returned v' ∧ OL inK inE w.heap.size w' v' l ∧ Below w.heap.size w w' := by
  obtain ⟨i0, hi, hz0, hz1, hz2⟩ := info_parts inK_ok.info
  obtain ⟨m, hm⟩ : ∃ m, m = l.length := ⟨_, rfl⟩
  have HM := Lib.hid hm
  have HC := Lib.hid hc
  have HN := Lib.hid (show ∀ j u, (l.flatMap inE)[j]? = some u → (w.alloc (.cells #[] 3)).cell? ((⟨g, o, none⟩ : Addr).add j) = some u from fun j u hu => by
    have hj : j < l.length := by
      have := (List.getElem?_eq_some_iff.1 hu).1
      rw [flat_len inE_cells] at this
      simpa [inK] using this
    have e := flat_at inE_cells l j 0 hj (by decide)
    rw [show j * inK.size + 0 = j by simp [inK]] at e
    rw [e] at hu
    have h2 : u = .int .i64 (l[j] : Int) := by simpa [inE] using hu.symm
    have hadd : (⟨g, o, none⟩ : Addr).add j = ⟨g, o + j, none⟩ := by unfold Addr.add; split <;> simp_all
    rw [hadd, World.cell?_of_block (a := ⟨g, o + j, none⟩) (heap_alloc_old w _ hg), h2]
    exact HC.out j hj)
  have HO := Lib.hid (World.ownsRow_made (e := 3) (size := 1) (base := w.heap.size) w #[] 0 (Nat.le_refl _) (Nat.zero_le _) (by rfl))
  have HL := Lib.hid (flat_len inE_cells l)
  have H1 := Lib.hid (show ∀ u ∈ l.flatMap inE, u.oneCell' = true from fun u hu => by
    obtain ⟨x, -, hx⟩ := List.mem_flatMap.1 hu
    exact (inE_cells x).2 u hx)
  rw [← hm] at hl HL ⊢
  clear hm hc
  have he : ∀ w : World, (binOp .eql 52 (.slice (some ⟨g, o, none⟩) m c) (.slice none 0 0)).run Tryd.prog w = .ok (.bool false) w := fun _ => rfl
  go_enter Tryd.func66, Tryd.ntmps66
  go_wp2_with (first
    | (at_builtin; refine wpList_append_own _ rfl _ _ 52 rfl w.heap.size 3 i0 (.int .i64 0) 1 8 Tryd.underlying52 hi hz0 hz1 hz2 rfl (by decide) (.slice (some ⟨w.heap.size, 0, none⟩) 0 0) 0 [] rfl HO.out ⟨g, o, none⟩ m c (l.flatMap inE) rfl (by rw [HL.out]; rfl) HN.out H1.out (by unfold maxLen; omega) (by omega) (by simp) ?_; intro v' w' hown hgrow _; have HOW := Lib.hid hown; have HGR := Lib.hid hgrow; clear hown hgrow))
  go_ret
  exact (show ∃ v', _ from ⟨_, rfl, by
    have h2 := HOW.out
    rw [Nat.zero_add, List.nil_append, HM.out] at h2
    exact h2, ((Below.refl w.heap.size w).alloc (Nat.le_refl _) _).grown HGR.out (by simp) (fun j hj => by cases hj; exact Nat.le_refl _)⟩)
set_option maxRecDepth 100000 in
set_option maxHeartbeats 8000000 in
theorem parts_choice {g : Nat} {w : World} (h : ChC w g) :
    Calls Tryd.prog 51 #[.slice (some ⟨g, 0, none⟩) 4 4, .int .i64 3] w fun e w' => ∃ v', e = .returned (.tuple #[v', .int .i64 0]) ∧ OL inK inE w.heap.size w' v' [0, 1, 2] ∧ Below w.heap.size w w' := by
  have HC := Lib.hid h
  have HD0 := Lib.hid (OL.nil inK inE w.heap.size w)
  have HB0 := Lib.hid (Below.refl w.heap.size w)
  clear h
  go_enter Tryd.func51, Tryd.ntmps51
  go_wp2
  go_loopw [6, 7, 27] (fun x y z wr => ∃ k : Nat, z = .int .i64 k ∧ k ≤ 4 ∧ Hid (OL inK inE w.heap.size wr x (doneP k)) ∧ Hid (Below w.heap.size w wr) ∧ (k = 0 → x = .slice none 0 0) ∧ (k = 4 → ∃ B, Hid (w.heap.size ≤ B) ∧ Hid (OL inK inE B wr y [0, 1, 2]))) (fun _ _ z _ => 4 - (intOf z).toNat)
  case atStart => exact ⟨0, rfl, by omega, HD0, HB0, fun _ => rfl, fun h => by cases h⟩
  case round =>
    obtain ⟨k, rfl, hk, hol, hbe, hx0, hy4⟩ := hrel
    clear HD0 HB0
    have hk4 : k = 0 ∨ k = 1 ∨ k = 2 ∨ k = 3 ∨ k = 4 := by omega
    have HCR := Lib.hid (HC.out.new hbe.out)
    have hgr := HCR.out.1
    have hsw := hbe.out.size
    have HBR := Lib.hid hbe.out
    obtain ⟨q, cp, hv, hq, hcp⟩ := OL.form hol.out
    have HOWN := Lib.hid (show ∀ n k2, (Value.slice q n cp).ownBlock = some k2 → w.heap.size ≤ k2 from fun n k2 h2 => (World.ownsRow.lt hol.out k2 (by rw [hv]; cases q <;> exact h2)).1)
    have HOL := Lib.hid (show ∀ n, (doneP k).length = n → OL inK inE w.heap.size wr (.slice q n cp) (doneP k) from fun n hn => by rw [← hn, ← hv]; exact hol.out)
    rcases hk4 with rfl | rfl | rfl | rfl | rfl
    · obtain rfl : u6 = .slice none 0 0 := hx0 rfl
      obtain ⟨n0, n1, n2, n3, n4, n5, n6, n7⟩ := HCR.out.2 0 (by omega)
      have m0 : wr.cell? ⟨g, 0, none⟩ = some (.int .i64 2) := n0
      have m1 : wr.cell? ⟨g, 1, none⟩ = some (.int .i64 0) := n1
      have m2 : wr.cell? ⟨g, 2, none⟩ = some (.string ⟨#[]⟩) := n2
      have m3 : wr.cell? ⟨g, 3, none⟩ = some (.bool false) := n3
      have m4 : wr.cell? ⟨g, 4, none⟩ = some (.int .u64 0) := n4
      have m5 : wr.cell? ⟨g, 5, none⟩ = some (.int .u64 0) := n5
      have m6 : wr.cell? ⟨g, 6, none⟩ = some (.int .i64 0) := n6
      have m7 : wr.cell? ⟨g, 7, none⟩ = some (.int .i64 0) := n7
      clear n0 n1 n2 n3 n4 n5 n6 n7
      have HT := Lib.hid (show ∀ w, Calls Tryd.prog 47 #[.int .i64 2, .int .i64 0] w fun e w' => e = .returned (.bool true) ∧ w' = w from fun w => etakes_any 2 0 w)
      go_wp2_with (first
        | (go_at_call 47; ((with_reducible refine (HT.out _).mono ?_); rintro e w' ⟨rfl, rfl⟩))
        | (go_at_call 66; ((with_reducible refine (clone_nil _).mono ?_); rintro e w' ⟨rfl, rfl⟩))
        | (at_builtin; refine wpList_append_ol inK_ok inE_cells rfl _ _ rfl rfl _ 0 rfl (OL.nil inK inE w.heap.size _) (by simp [Act.eval]) (by decide) (by (repeat' (first | (with_reducible exact Below.refl _ _) | (with_reducible assumption) | (with_reducible refine Below.alloc ?_ ?_ _) | (with_reducible refine below_drewN ?_ _) | (with_reducible refine below_drew ?_) | (with_reducible refine below_ext ?_ ?_ _ _) | (with_reducible refine Below.setCell ?_ ?_ _) | (simp; done) | (simp; omega) | omega))) ?_; intro g2 cap2 w2 hob3 hoth hat hg2 hsz2; have HO2 := Lib.hid (show OL inK inE w.heap.size w2 (.slice (some ⟨g2, 0, none⟩) 1 cap2) (doneP 1) from hob3); have HB2 := Lib.hid ((HBR.out.trans (show Below w.heap.size wr _ by (repeat' (first | (with_reducible exact Below.refl _ _) | (with_reducible assumption) | (with_reducible refine Below.alloc ?_ ?_ _) | (with_reducible refine below_drewN ?_ _) | (with_reducible refine below_drew ?_) | (with_reducible refine below_ext ?_ ?_ _ _) | (with_reducible refine Below.setCell ?_ ?_ _) | (simp; done) | (simp; omega) | omega)))).trans (hoth.below (by first | omega | (simp; omega)) (fun k hk => by cases hk))); clear hob3 hoth hat hg2 hsz2))
      go_roundw
      case rel => exact ⟨1, rfl, by omega, HO2, HB2, (fun h => by cases h), (fun h => by cases h)⟩
      case measure => simp [intOf]
    · obtain rfl : u6 = .slice q 1 cp := hv
      obtain ⟨gd, rfl, hgd1, hgd2⟩ := hq (by decide)
      have hcp2 : 1 ≤ cp := hcp
      obtain ⟨n0, n1, n2, n3, n4, n5, n6, n7⟩ := HCR.out.2 1 (by omega)
      have m0 : wr.cell? ⟨g, 8, none⟩ = some (.int .i64 1) := n0
      have m1 : wr.cell? ⟨g, 9, none⟩ = some (.int .i64 0) := n1
      have m2 : wr.cell? ⟨g, 10, none⟩ = some (.string ⟨#[]⟩) := n2
      have m3 : wr.cell? ⟨g, 11, none⟩ = some (.bool false) := n3
      have m4 : wr.cell? ⟨g, 12, none⟩ = some (.int .u64 0) := n4
      have m5 : wr.cell? ⟨g, 13, none⟩ = some (.int .u64 0) := n5
      have m6 : wr.cell? ⟨g, 14, none⟩ = some (.int .i64 0) := n6
      have m7 : wr.cell? ⟨g, 15, none⟩ = some (.int .i64 0) := n7
      clear n0 n1 n2 n3 n4 n5 n6 n7
      have HT := Lib.hid (show ∀ w, Calls Tryd.prog 47 #[.int .i64 1, .int .i64 0] w fun e w' => e = .returned (.bool true) ∧ w' = w from fun w => etakes_any 1 0 w)
      have HCL := Lib.hid (show ∀ o c w', Below wr.heap.size wr w' → Calls Tryd.prog 66 #[.slice (some ⟨gd, o, none⟩) 0 c] w' fun e w'' => ∃ v', e = .returned v' ∧ OL inK inE w'.heap.size w'' v' [] ∧ Below w'.heap.size w' w'' from fun o c w' hb => clone_some gd o c [] w' (Nat.lt_of_lt_of_le hgd2 hb.size) (by decide) (fun j h => absurd h (Nat.not_lt_zero j)))
      have hcc : cp = 1 ∨ (1 < cp ∧ ¬ cp = 1) := by omega
      rcases hcc with rfl | ⟨hcc, hcc2⟩
      all_goals
        go_wp2_with (first
          | (go_at_call 47; ((with_reducible refine (HT.out _).mono ?_); rintro e w' ⟨rfl, rfl⟩))
          | (go_at_call 66; (with_reducible refine (HCL.out _ _ _ (by (repeat' (first | (with_reducible exact Below.refl _ _) | (with_reducible assumption) | (with_reducible refine Below.alloc ?_ ?_ _) | (with_reducible refine below_drewN ?_ _) | (with_reducible refine below_drew ?_) | (with_reducible refine below_ext ?_ ?_ _ _) | (with_reducible refine Below.setCell ?_ ?_ _) | (simp; done) | (simp; omega) | omega)))).mono ?_); rintro e w1 ⟨v1, rfl, -, hb1⟩; obtain ⟨osC, dC, rfl⟩ := ext_of_below hb1; clear hb1)
          | (at_builtin; refine wpList_append_ol inK_ok inE_cells rfl _ _ rfl rfl _ 1 rfl (OL.new (HOL.out 1 rfl) (by (repeat' (first | (with_reducible exact Below.refl _ _) | (with_reducible assumption) | (with_reducible refine Below.alloc ?_ ?_ _) | (with_reducible refine below_drewN ?_ _) | (with_reducible refine below_drew ?_) | (with_reducible refine below_ext ?_ ?_ _ _) | (with_reducible refine Below.setCell ?_ ?_ _) | (simp; done) | (simp; omega) | omega)))) (by simp [Act.eval]) (by decide) (by (repeat' (first | (with_reducible exact Below.refl _ _) | (with_reducible assumption) | (with_reducible refine Below.alloc ?_ ?_ _) | (with_reducible refine below_drewN ?_ _) | (with_reducible refine below_drew ?_) | (with_reducible refine below_ext ?_ ?_ _ _) | (with_reducible refine Below.setCell ?_ ?_ _) | (simp; done) | (simp; omega) | omega))) ?_; intro g2 cap2 w2 hob3 hoth hat hg2 hsz2; have HO2 := Lib.hid (show OL inK inE w.heap.size w2 (.slice (some ⟨g2, 0, none⟩) 2 cap2) (doneP 2) from hob3); have HB2 := Lib.hid ((HBR.out.trans (show Below w.heap.size wr _ by (repeat' (first | (with_reducible exact Below.refl _ _) | (with_reducible assumption) | (with_reducible refine Below.alloc ?_ ?_ _) | (with_reducible refine below_drewN ?_ _) | (with_reducible refine below_drew ?_) | (with_reducible refine below_ext ?_ ?_ _ _) | (with_reducible refine Below.setCell ?_ ?_ _) | (simp; done) | (simp; omega) | omega)))).trans (hoth.below (by first | omega | (simp; omega)) (fun k hk => HOWN.out _ k hk))); clear hob3 hoth hat hg2 hsz2))
        go_roundw
        case rel => exact ⟨2, rfl, by omega, HO2, HB2, (fun h => by cases h), (fun h => by cases h)⟩
        case measure => simp [intOf]
    · obtain rfl : u6 = .slice q 2 cp := hv
      obtain ⟨gd, rfl, hgd1, hgd2⟩ := hq (by decide)
      have hcp2 : 2 ≤ cp := hcp
      obtain ⟨n0, n1, n2, n3, n4, n5, n6, n7⟩ := HCR.out.2 2 (by omega)
      have m0 : wr.cell? ⟨g, 16, none⟩ = some (.int .i64 3) := n0
      have m1 : wr.cell? ⟨g, 17, none⟩ = some (.int .i64 0) := n1
      have m2 : wr.cell? ⟨g, 18, none⟩ = some (.string ⟨#[]⟩) := n2
      have m3 : wr.cell? ⟨g, 19, none⟩ = some (.bool false) := n3
      have m4 : wr.cell? ⟨g, 20, none⟩ = some (.int .u64 0) := n4
      have m5 : wr.cell? ⟨g, 21, none⟩ = some (.int .u64 0) := n5
      have m6 : wr.cell? ⟨g, 22, none⟩ = some (.int .i64 0) := n6
      have m7 : wr.cell? ⟨g, 23, none⟩ = some (.int .i64 0) := n7
      clear n0 n1 n2 n3 n4 n5 n6 n7
      have HT := Lib.hid (show ∀ w, Calls Tryd.prog 47 #[.int .i64 3, .int .i64 0] w fun e w' => e = .returned (.bool true) ∧ w' = w from fun w => etakes_any 3 0 w)
      have HCL := Lib.hid (show ∀ o c w', Below wr.heap.size wr w' → Calls Tryd.prog 66 #[.slice (some ⟨gd, o, none⟩) 0 c] w' fun e w'' => ∃ v', e = .returned v' ∧ OL inK inE w'.heap.size w'' v' [] ∧ Below w'.heap.size w' w'' from fun o c w' hb => clone_some gd o c [] w' (Nat.lt_of_lt_of_le hgd2 hb.size) (by decide) (fun j h => absurd h (Nat.not_lt_zero j)))
      have hcc : cp = 2 ∨ (2 < cp ∧ ¬ cp = 2) := by omega
      rcases hcc with rfl | ⟨hcc, hcc2⟩
      all_goals
        go_wp2_with (first
          | (go_at_call 47; ((with_reducible refine (HT.out _).mono ?_); rintro e w' ⟨rfl, rfl⟩))
          | (go_at_call 66; (with_reducible refine (HCL.out _ _ _ (by (repeat' (first | (with_reducible exact Below.refl _ _) | (with_reducible assumption) | (with_reducible refine Below.alloc ?_ ?_ _) | (with_reducible refine below_drewN ?_ _) | (with_reducible refine below_drew ?_) | (with_reducible refine below_ext ?_ ?_ _ _) | (with_reducible refine Below.setCell ?_ ?_ _) | (simp; done) | (simp; omega) | omega)))).mono ?_); rintro e w1 ⟨v1, rfl, -, hb1⟩; obtain ⟨osC, dC, rfl⟩ := ext_of_below hb1; clear hb1)
          | (at_builtin; refine wpList_append_ol inK_ok inE_cells rfl _ _ rfl rfl _ 2 rfl (OL.new (HOL.out 2 rfl) (by (repeat' (first | (with_reducible exact Below.refl _ _) | (with_reducible assumption) | (with_reducible refine Below.alloc ?_ ?_ _) | (with_reducible refine below_drewN ?_ _) | (with_reducible refine below_drew ?_) | (with_reducible refine below_ext ?_ ?_ _ _) | (with_reducible refine Below.setCell ?_ ?_ _) | (simp; done) | (simp; omega) | omega)))) (by simp [Act.eval]) (by decide) (by (repeat' (first | (with_reducible exact Below.refl _ _) | (with_reducible assumption) | (with_reducible refine Below.alloc ?_ ?_ _) | (with_reducible refine below_drewN ?_ _) | (with_reducible refine below_drew ?_) | (with_reducible refine below_ext ?_ ?_ _ _) | (with_reducible refine Below.setCell ?_ ?_ _) | (simp; done) | (simp; omega) | omega))) ?_; intro g2 cap2 w2 hob3 hoth hat hg2 hsz2; have HO2 := Lib.hid (show OL inK inE w.heap.size w2 (.slice (some ⟨g2, 0, none⟩) 3 cap2) (doneP 3) from hob3); have HB2 := Lib.hid ((HBR.out.trans (show Below w.heap.size wr _ by (repeat' (first | (with_reducible exact Below.refl _ _) | (with_reducible assumption) | (with_reducible refine Below.alloc ?_ ?_ _) | (with_reducible refine below_drewN ?_ _) | (with_reducible refine below_drew ?_) | (with_reducible refine below_ext ?_ ?_ _ _) | (with_reducible refine Below.setCell ?_ ?_ _) | (simp; done) | (simp; omega) | omega)))).trans (hoth.below (by first | omega | (simp; omega)) (fun k hk => HOWN.out _ k hk))); clear hob3 hoth hat hg2 hsz2))
        go_roundw
        case rel => exact ⟨3, rfl, by omega, HO2, HB2, (fun h => by cases h), (fun h => by cases h)⟩
        case measure => simp [intOf]
    · obtain rfl : u6 = .slice q 3 cp := hv
      obtain ⟨gd, rfl, hgd1, hgd2⟩ := hq (by decide)
      have hcp2 : 3 ≤ cp := hcp
      obtain ⟨n0, n1, n2, n3, n4, n5, n6, n7⟩ := HCR.out.2 3 (by omega)
      have m0 : wr.cell? ⟨g, 24, none⟩ = some (.int .i64 21) := n0
      have m1 : wr.cell? ⟨g, 25, none⟩ = some (.int .i64 3) := n1
      have m2 : wr.cell? ⟨g, 26, none⟩ = some (.string ⟨#[]⟩) := n2
      have m3 : wr.cell? ⟨g, 27, none⟩ = some (.bool false) := n3
      have m4 : wr.cell? ⟨g, 28, none⟩ = some (.int .u64 0) := n4
      have m5 : wr.cell? ⟨g, 29, none⟩ = some (.int .u64 0) := n5
      have m6 : wr.cell? ⟨g, 30, none⟩ = some (.int .i64 0) := n6
      have m7 : wr.cell? ⟨g, 31, none⟩ = some (.int .i64 0) := n7
      clear n0 n1 n2 n3 n4 n5 n6 n7
      have HT := Lib.hid (show ∀ w, Calls Tryd.prog 47 #[.int .i64 21, .int .i64 3] w fun e w' => e = .returned (.bool true) ∧ w' = w from fun w => etakes_any 21 3 w)
      have hcp4 : ¬ cp = 0 := by omega
      have hcp5 : 0 < cp := by omega
      have HCL := Lib.hid (show ∀ w', Below wr.heap.size wr w' → Calls Tryd.prog 66 #[.slice (some ⟨gd, 0, none⟩) 3 cp] w' fun e w'' => ∃ v', e = .returned v' ∧ OL inK inE w'.heap.size w'' v' [0, 1, 2] ∧ Below w'.heap.size w' w'' from fun w' hb => clone_some gd 0 cp [0, 1, 2] w' (Nat.lt_of_lt_of_le hgd2 hb.size) (by decide) (fun j hj => by
        have h5 := OL.cell inE_cells (OL.new (HOL.out 3 rfl) hb) j 0 hj rfl
        rw [show j * inK.size + 0 = 0 + j by simp [inK]] at h5
        exact h5))
      have HOL3 := Lib.hid (fun w' (hb : Below wr.heap.size wr w') => OL.take (m := 0) inE_cells (OL.new (HOL.out 3 rfl) hb) (by decide))
      go_wp2_with (first
        | (go_at_call 47; ((with_reducible refine (HT.out _).mono ?_); rintro e w' ⟨rfl, rfl⟩))
        | (go_at_call 66; (with_reducible refine (HCL.out _ (by (repeat' (first | (with_reducible exact Below.refl _ _) | (with_reducible assumption) | (with_reducible refine Below.alloc ?_ ?_ _) | (with_reducible refine below_drewN ?_ _) | (with_reducible refine below_drew ?_) | (with_reducible refine below_ext ?_ ?_ _ _) | (with_reducible refine Below.setCell ?_ ?_ _) | (simp; done) | (simp; omega) | omega)))).mono ?_); rintro e w1 ⟨v1, rfl, hvo, hb1⟩; have HVO := Lib.hid hvo; obtain ⟨osC, dC, rfl⟩ := ext_of_below hb1; clear hb1 hvo)
        | (at_builtin; refine wpList_append_ol inK_ok inE_cells rfl _ _ rfl rfl _ 3 rfl (HOL3.out _ (by (repeat' (first | (with_reducible exact Below.refl _ _) | (with_reducible assumption) | (with_reducible refine Below.alloc ?_ ?_ _) | (with_reducible refine below_drewN ?_ _) | (with_reducible refine below_drew ?_) | (with_reducible refine below_ext ?_ ?_ _ _) | (with_reducible refine Below.setCell ?_ ?_ _) | (simp; done) | (simp; omega) | omega)))) (by simp [Act.eval]) (by decide) (by (repeat' (first | (with_reducible exact Below.refl _ _) | (with_reducible assumption) | (with_reducible refine Below.alloc ?_ ?_ _) | (with_reducible refine below_drewN ?_ _) | (with_reducible refine below_drew ?_) | (with_reducible refine below_ext ?_ ?_ _ _) | (with_reducible refine Below.setCell ?_ ?_ _) | (simp; done) | (simp; omega) | omega))) ?_; intro g2 cap2 w2 hob3 hoth hat hg2 hsz2; have HO2 := Lib.hid (show OL inK inE w.heap.size w2 (.slice (some ⟨g2, 0, none⟩) 1 cap2) (doneP 4) from hob3); have HB2 := Lib.hid ((HBR.out.trans (show Below w.heap.size wr _ by (repeat' (first | (with_reducible exact Below.refl _ _) | (with_reducible assumption) | (with_reducible refine Below.alloc ?_ ?_ _) | (with_reducible refine below_drewN ?_ _) | (with_reducible refine below_drew ?_) | (with_reducible refine below_ext ?_ ?_ _ _) | (with_reducible refine Below.setCell ?_ ?_ _) | (simp; done) | (simp; omega) | omega)))).trans (hoth.below (by first | omega | (simp; omega)) (fun k hk => HOWN.out _ k hk))); have HV2 := Lib.hid (OL.kept HVO.out hoth (fun k hk e => by have h9 := (World.ownsRow.lt HVO.out k hk).1; have h8 : gd = k := Option.some.inj e; simp at h9; omega)); clear hob3 hoth hat hg2 hsz2))
      go_roundw
      case rel => exact ⟨4, rfl, by omega, HO2, HB2, (fun h => by cases h), (fun _ => ⟨_, Lib.hid (by first | omega | (simp; omega)), HV2⟩)⟩
      case measure => simp [intOf]
    · obtain ⟨B, hB, hvo⟩ := hy4 rfl
      go_wp2
      go_ret2
      exact (show ∃ v', _ from ⟨_, rfl, ⟨hvo.out.1, by
        rcases hvo.out.2 with h9 | ⟨g9, c9, cur9, e9, hb9, r9⟩
        · exact .inl h9
        · exact .inr ⟨g9, c9, cur9, e9, Nat.le_trans hB.out hb9, r9⟩⟩, HBR.out⟩)
end Go.Proofs.YtpgfgaloagdogaaDoor
