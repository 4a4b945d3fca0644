/-
  Types of the language: do two meet, do all meet one; what a number, a text, a sum, a list of numbers comes to.
-/
import Derived.Test.YtjkallelniggpaaDoorNodA
import Derived.Test.YtjkallelniggpaaDoorOl
import Derived.Test.YtjkallelniggpaaDoorRl
import Derived.BigRegion
import Derived.Deep.RegionLaw
import Derived.Deep.CutRange
import Derived.Deep.CutBlock
import Derived.Deep.DeepCutAuto
import Derived.Deep.RegionHeld3
import Derived.Deep.RegionWith
namespace Go.Proofs.YtjkallelniggpaaDoor
open Go.RowKit
attribute [local go_sem] setCell_drewN cell?_ext frozen?_ext shape?_ext setCell_ext lt_1' ne_1' en_1' le_1' lt_2' ne_2' en_2' le_2' lt_3' ne_3' en_3' le_3' lt_4' ne_4' en_4' le_4' lt_5' ne_5' en_5' le_5' lt_6' ne_6' en_6' le_6' lt_7' ne_7' en_7' le_7' lt_8' ne_8' en_8' le_8' lt_9' ne_9' en_9' le_9' lt_10' ne_10' en_10' le_10' lt_11' ne_11' en_11' le_11' lt_12' ne_12' en_12' le_12'

abbrev Ty := Int × Int
abbrev TyV (a : Ty) : Value := .agg #[.int .i64 a.1, .int .i64 a.2]
def tpE (a : Ty) : List Value := [.int .i64 a.1, .int .i64 a.2]
/-- the types that the package names, in memory -/
structure TyG (w : World) : Prop where
  sz : 0 < w.heap.size ∧ 1 < w.heap.size ∧ 2 < w.heap.size ∧ 3 < w.heap.size ∧ 4 < w.heap.size ∧ 5 < w.heap.size ∧ 6 < w.heap.size
  n0 : w.cell? ⟨0, 0, none⟩ = some (.int .i64 2)
  n1 : w.cell? ⟨0, 1, none⟩ = some (.int .i64 0)
  ns0 : w.cell? ⟨1, 0, none⟩ = some (.int .i64 5)
  ns1 : w.cell? ⟨1, 1, none⟩ = some (.int .i64 2)
  l0 : w.cell? ⟨2, 0, none⟩ = some (.int .i64 5)
  l1 : w.cell? ⟨2, 1, none⟩ = some (.int .i64 0)
  t0 : w.cell? ⟨3, 0, none⟩ = some (.int .i64 3)
  t1 : w.cell? ⟨3, 1, none⟩ = some (.int .i64 0)
  b0 : w.cell? ⟨4, 0, none⟩ = some (.int .i64 1)
  b1 : w.cell? ⟨4, 1, none⟩ = some (.int .i64 0)
  d0 : w.cell? ⟨5, 0, none⟩ = some (.int .i64 4)
  d1 : w.cell? ⟨5, 1, none⟩ = some (.int .i64 0)
  a0 : w.cell? ⟨6, 0, none⟩ = some (.int .i64 0)
  a1 : w.cell? ⟨6, 1, none⟩ = some (.int .i64 0)
theorem TyG.below {w w' : World} (h : TyG w) (hb : Below w.heap.size w w') : TyG w' := by
  obtain ⟨⟨s0, s1, s2, s3, s4, s5, s6⟩, c0, c1, c2, c3, c4, c5, c6, c7, c8, c9, c10, c11, c12, c13⟩ := h
  have hs := hb.size
  have hc : ∀ g j, g < w.heap.size → w'.cell? ⟨g, j, none⟩ = w.cell? ⟨g, j, none⟩ := fun g j hg => hb.cell (p := ⟨g, j, none⟩) hg
  exact ⟨⟨by omega, by omega, by omega, by omega, by omega, by omega, by omega⟩, (hc _ _ s0).trans c0, (hc _ _ s0).trans c1, (hc _ _ s1).trans c2, (hc _ _ s1).trans c3, (hc _ _ s2).trans c4, (hc _ _ s2).trans c5, (hc _ _ s3).trans c6, (hc _ _ s3).trans c7, (hc _ _ s4).trans c8, (hc _ _ s4).trans c9, (hc _ _ s5).trans c10, (hc _ _ s5).trans c11, (hc _ _ s6).trans c12, (hc _ _ s6).trans c13⟩
theorem ty_eq (a b : Ty) (w : World) : (Op.equalIn 10000 25 (TyV a) (TyV b)).run Tryd.prog w = .ok (decide (a = b)) w := by
  have u2 := Tryd.underlying3
  have a2 := Tryd.isAgg3
  have z2 := Tryd.sizeOf3
  have hS : Tryd.prog.underlying 25 = some (.struct (Tryd.prog.fieldsOf 25)) := by kernel_rfl
  have hp : Tryd.prog.stoodInHeld 25 = false := by kernel_rfl
  have hd : decide (a = b) = (a.1 == b.1 && a.2 == b.2) := by
    rw [Bool.eq_iff_iff]; simp [Prod.ext_iff]
  rw [hd, show (10000 : Nat) = 9999 + 1 from rfl, run_equalIn_agg w 9999 25 _ _ hS hp]
  simp only [Program.fieldsOf, Tryd.underlying25]
  cases h1 : a.1 == b.1 <;> cases h2 : a.2 == b.2 <;> go_simp
/-- may a value be of both? -/
def meetB (a b : Ty) : Bool := decide (a = (0, 0)) || (decide (b = (0, 0)) || (decide (a = b) || (decide (a.1 = 5) && (decide (b.1 = 5) && (decide (a = (5, 0)) || decide (b = (5, 0)))))))
set_option maxRecDepth 100000 in
set_option maxHeartbeats 4000000 in
theorem meets_any (a b : Ty) (w : World) (hG : TyG w) : Calls Tryd.prog 73 #[TyV a, TyV b] w fun e w' => e = .returned (.bool (meetB a b)) ∧ Below w.heap.size w w' := by
  have hmg : Tryd.prog.eqGuardType Tryd.prog.depth 25 = false := by kernel_rfl
  have e1 := fun w => ty_eq a (0, 0) w
  have e2 := fun w => ty_eq b (0, 0) w
  have e3 := fun w => ty_eq a b w
  have e4 := fun w => ty_eq a (5, 0) w
  have e5 := fun w => ty_eq b (5, 0) w
  have q1 := beq_dec a.1 5
  have q2 := beq_dec b.1 5
  obtain ⟨r, hr⟩ : ∃ r, r = meetB a b := ⟨_, rfl⟩
  have hr2 : r = (decide (a = (0, 0)) || (decide (b = (0, 0)) || (decide (a = b) || (decide (a.1 = 5) && (decide (b.1 = 5) && (decide (a = (5, 0)) || decide (b = (5, 0)))))))) := hr
  rw [← hr]
  clear hr
  have hg := hG.sz
  have gl0 := hG.l0
  have gl1 := hG.l1
  have ga0 := hG.a0
  have ga1 := hG.a1
  clear hG
  obtain ⟨a1, a2⟩ := a
  obtain ⟨b1, b2⟩ := b
  simp only at e1 e2 e3 e4 e5 q1 q2 hr2 ⊢
  obtain ⟨p1, h1⟩ : ∃ p, p = decide ((a1, a2) = ((0, 0) : Ty)) := ⟨_, rfl⟩
  obtain ⟨p2, h2⟩ : ∃ p, p = decide ((b1, b2) = ((0, 0) : Ty)) := ⟨_, rfl⟩
  obtain ⟨p3, h3⟩ : ∃ p, p = decide ((a1, a2) = ((b1, b2) : Ty)) := ⟨_, rfl⟩
  obtain ⟨p4, h4⟩ : ∃ p, p = decide ((a1, a2) = ((5, 0) : Ty)) := ⟨_, rfl⟩
  obtain ⟨p5, h5⟩ : ∃ p, p = decide ((b1, b2) = ((5, 0) : Ty)) := ⟨_, rfl⟩
  obtain ⟨k1, h6⟩ : ∃ p, p = decide (a1 = 5) := ⟨_, rfl⟩
  obtain ⟨k2, h7⟩ : ∃ p, p = decide (b1 = 5) := ⟨_, rfl⟩
  rw [← h1] at e1 hr2
  rw [← h2] at e2 hr2
  rw [← h3] at e3 hr2
  rw [← h4] at e4 hr2
  rw [← h5] at e5 hr2
  rw [← h6] at q1 hr2
  rw [← h7] at q2 hr2
  clear h1 h2 h3 h4 h5 h6 h7
  cases p1
  case true =>
    subst hr2
    go_enter Tryd.func73, Tryd.ntmps73
    go_wp2
    go_ret
    exact ⟨rfl, by (repeat' (first | (with_reducible exact Below.refl _ _) | (with_reducible assumption) | (with_reducible refine Below.alloc ?_ ?_ _) | (with_reducible refine below_drewN ?_ _) | (with_reducible refine below_drew ?_) | (with_reducible refine below_ext ?_ ?_ _ _) | (with_reducible refine Below.setCell ?_ ?_ _) | (simp; done) | (simp; omega) | omega))⟩
  cases p2
  case true =>
    subst hr2
    go_enter Tryd.func73, Tryd.ntmps73
    go_wp2
    go_ret
    exact ⟨rfl, by (repeat' (first | (with_reducible exact Below.refl _ _) | (with_reducible assumption) | (with_reducible refine Below.alloc ?_ ?_ _) | (with_reducible refine below_drewN ?_ _) | (with_reducible refine below_drew ?_) | (with_reducible refine below_ext ?_ ?_ _ _) | (with_reducible refine Below.setCell ?_ ?_ _) | (simp; done) | (simp; omega) | omega))⟩
  cases p3
  case true =>
    subst hr2
    go_enter Tryd.func73, Tryd.ntmps73
    go_wp2
    go_ret
    exact ⟨rfl, by (repeat' (first | (with_reducible exact Below.refl _ _) | (with_reducible assumption) | (with_reducible refine Below.alloc ?_ ?_ _) | (with_reducible refine below_drewN ?_ _) | (with_reducible refine below_drew ?_) | (with_reducible refine below_ext ?_ ?_ _ _) | (with_reducible refine Below.setCell ?_ ?_ _) | (simp; done) | (simp; omega) | omega))⟩
  cases k1
  case false =>
    subst hr2
    go_enter Tryd.func73, Tryd.ntmps73
    go_wp2
    go_ret
    exact ⟨rfl, by (repeat' (first | (with_reducible exact Below.refl _ _) | (with_reducible assumption) | (with_reducible refine Below.alloc ?_ ?_ _) | (with_reducible refine below_drewN ?_ _) | (with_reducible refine below_drew ?_) | (with_reducible refine below_ext ?_ ?_ _ _) | (with_reducible refine Below.setCell ?_ ?_ _) | (simp; done) | (simp; omega) | omega))⟩
  cases k2
  case false =>
    subst hr2
    go_enter Tryd.func73, Tryd.ntmps73
    go_wp2
    go_ret
    exact ⟨rfl, by (repeat' (first | (with_reducible exact Below.refl _ _) | (with_reducible assumption) | (with_reducible refine Below.alloc ?_ ?_ _) | (with_reducible refine below_drewN ?_ _) | (with_reducible refine below_drew ?_) | (with_reducible refine below_ext ?_ ?_ _ _) | (with_reducible refine Below.setCell ?_ ?_ _) | (simp; done) | (simp; omega) | omega))⟩
  cases p4
  all_goals
    subst hr2
    go_enter Tryd.func73, Tryd.ntmps73
    go_wp2
    go_ret
    exact ⟨rfl, by (repeat' (first | (with_reducible exact Below.refl _ _) | (with_reducible assumption) | (with_reducible refine Below.alloc ?_ ?_ _) | (with_reducible refine below_drewN ?_ _) | (with_reducible refine below_drew ?_) | (with_reducible refine below_ext ?_ ?_ _ _) | (with_reducible refine Below.setCell ?_ ?_ _) | (simp; done) | (simp; omega) | omega))⟩
set_option maxRecDepth 100000 in
theorem allMeet_any (ts : List Ty) (one : Ty) (n : Nat) (w : World) (v : Value) (hv : RL 2 tpE n w v ts) (hn : n ≤ w.heap.size) (hl : ts.length ≤ 1000) (hG : TyG w) :
    Calls Tryd.prog 90 #[v, TyV one] w fun e w' => e = .returned (.bool (ts.all fun t => meetB t one)) ∧ Below w.heap.size w w' := by
  obtain ⟨p, c, rfl, h2⟩ := hv
  have H2 := Lib.hid h2
  have HB0 := Lib.hid (Below.refl w.heap.size w)
  obtain ⟨len, hlen⟩ : ∃ len, len = ts.length := ⟨_, rfl⟩
  have HL := Lib.hid hlen
  rw [← hlen] at hl ⊢
  have HM := Lib.hid (fun a w' (hb : Below w.heap.size w w') => meets_any a one w' (hG.below hb))
  obtain ⟨R, hR⟩ : ∃ R, R = ts.all fun t => meetB t one := ⟨_, rfl⟩
  have HR := Lib.hid hR
  rw [← hR]
  obtain ⟨o1, o2⟩ := one
  try simp only at HM ⊢
  clear h2 hlen hR hG
  go_enter Tryd.func90, Tryd.ntmps90
  go_wp2
  go_loopw [9] (fun z wr => ∃ k : Nat, z = .int .i64 k ∧ k ≤ len ∧ Hid (Below w.heap.size w wr) ∧ w.heap.size < wr.heap.size ∧ wr.cell? ⟨w.heap.size, 0, none⟩ = some (.int .i64 o1) ∧ wr.cell? ⟨w.heap.size, 1, none⟩ = some (.int .i64 o2) ∧ Hid ((ts.drop k).all (fun t => meetB t (o1, o2)) = R)) (fun z _ => len - (intOf z).toNat)
  case atStart => exact ⟨0, rfl, Nat.zero_le _, Lib.hid (by (repeat' (first | (with_reducible exact Below.refl _ _) | (with_reducible assumption) | (with_reducible refine Below.alloc ?_ ?_ _) | (with_reducible refine below_drewN ?_ _) | (with_reducible refine below_drew ?_) | (with_reducible refine below_ext ?_ ?_ _ _) | (with_reducible refine Below.setCell ?_ ?_ _) | (simp; done) | (simp; omega) | omega))), by simp, by simp [go_sem], by simp [go_sem], Lib.hid HR.out.symm⟩
  case round =>
    obtain ⟨k, rfl, hk, hbe, hlt, o0, o1c, hro⟩ := hrel
    have hsw := hbe.out.size
    by_cases hkl : k < len
    · have hki : (k : Int) < (len : Int) := by omega
      have hk2 : k < ts.length := by rw [← HL.out]; exact hkl
      obtain ⟨g, o, rfl, hg, hc⟩ := H2.out (by omega)
      obtain ⟨x, y, hxy⟩ : ∃ x y, ts[k] = (x, y) := ⟨_, _, rfl⟩
      have hgr : g < wr.heap.size := by omega
      have c0 : wr.cell? ⟨g, o + k * 2, none⟩ = some (.int .i64 x) := by
        rw [hbe.out.cell (p := ⟨g, _, none⟩) (Nat.lt_of_lt_of_le hg hn)]
        exact hc k hk2 0 _ (by rw [hxy]; rfl)
      have c1 : wr.cell? ⟨g, o + k * 2 + 1, none⟩ = some (.int .i64 y) := by
        rw [hbe.out.cell (p := ⟨g, _, none⟩) (Nat.lt_of_lt_of_le hg hn)]
        exact hc k hk2 1 _ (by rw [hxy]; rfl)
      have hdr : ts.drop k = (x, y) :: ts.drop (k + 1) := by rw [List.drop_eq_getElem_cons hk2, hxy]
      have HRO := Lib.hid (show R = (meetB (x, y) (o1, o2) && (ts.drop (k + 1)).all (fun t => meetB t (o1, o2))) by rw [← hro.out, hdr]; rfl)
      have HM1 := Lib.hid (fun w' (hb : Below wr.heap.size wr w') => HM.out (x, y) w' (hbe.out.trans (hb.mono hsw)))
      generalize meetB (x, y) (o1, o2) = m at HM1 HRO
      have HBE := Lib.hid hbe.out
      clear hc hdr hro hxy hbe HM hk2
      cases m with
      | false =>
        have HF := Lib.hid (show R = false by rw [HRO.out]; rfl)
        go_wp2_with (first | (go_at_call 73; ((with_reducible refine (HM1.out _ (by (repeat' (first | (with_reducible exact Below.refl _ _) | (with_reducible assumption) | (with_reducible refine Below.alloc ?_ ?_ _) | (with_reducible refine below_drewN ?_ _) | (with_reducible refine below_drew ?_) | (with_reducible refine below_ext ?_ ?_ _ _) | (with_reducible refine Below.setCell ?_ ?_ _) | (simp; done) | (simp; omega) | omega)))).mono ?_); rintro e w1 ⟨rfl, hb1⟩; obtain ⟨osA, dA, rfl⟩ := ext_of_below hb1; clear hb1)))
        go_ret
        exact ⟨by rw [HF.out]; rfl, HBE.out.trans (show Below w.heap.size wr _ by (repeat' (first | (with_reducible exact Below.refl _ _) | (with_reducible assumption) | (with_reducible refine Below.alloc ?_ ?_ _) | (with_reducible refine below_drewN ?_ _) | (with_reducible refine below_drew ?_) | (with_reducible refine below_ext ?_ ?_ _ _) | (with_reducible refine Below.setCell ?_ ?_ _) | (simp; done) | (simp; omega) | omega)))⟩
      | true =>
        have HF := Lib.hid (show (ts.drop (k + 1)).all (fun t => meetB t (o1, o2)) = R by rw [HRO.out]; rfl)
        go_wp2_with (first | (go_at_call 73; ((with_reducible refine (HM1.out _ (by (repeat' (first | (with_reducible exact Below.refl _ _) | (with_reducible assumption) | (with_reducible refine Below.alloc ?_ ?_ _) | (with_reducible refine below_drewN ?_ _) | (with_reducible refine below_drew ?_) | (with_reducible refine below_ext ?_ ?_ _ _) | (with_reducible refine Below.setCell ?_ ?_ _) | (simp; done) | (simp; omega) | omega)))).mono ?_); rintro e w1 ⟨rfl, hb1⟩; obtain ⟨osA, dA, rfl⟩ := ext_of_below hb1; clear hb1)))
        go_roundw
        case rel => exact ⟨k + 1, by go_num, by omega, Lib.hid (HBE.out.trans (show Below w.heap.size wr _ by (repeat' (first | (with_reducible exact Below.refl _ _) | (with_reducible assumption) | (with_reducible refine Below.alloc ?_ ?_ _) | (with_reducible refine below_drewN ?_ _) | (with_reducible refine below_drew ?_) | (with_reducible refine below_ext ?_ ?_ _ _) | (with_reducible refine Below.setCell ?_ ?_ _) | (simp; done) | (simp; omega) | omega)))), by simp; omega, by simp [go_sem, *], by simp [go_sem, *], HF⟩
        case measure => simp [intOf]; omega
    · obtain rfl : k = len := by omega
      have hki : ¬ (k : Int) < k := by omega
      have HF := Lib.hid (show R = true by rw [← hro.out, List.drop_eq_nil_of_le (by rw [← HL.out]; exact Nat.le_refl _)]; rfl)
      go_wp2
      go_ret
      exact ⟨by rw [HF.out]; rfl, hbe.out.trans (show Below w.heap.size wr _ by (repeat' (first | (with_reducible exact Below.refl _ _) | (with_reducible assumption) | (with_reducible refine Below.alloc ?_ ?_ _) | (with_reducible refine below_drewN ?_ _) | (with_reducible refine below_drew ?_) | (with_reducible refine below_ext ?_ ?_ _ _) | (with_reducible refine Below.setCell ?_ ?_ _) | (simp; done) | (simp; omega) | omega)))⟩
end Go.Proofs.YtjkallelniggpaaDoor
