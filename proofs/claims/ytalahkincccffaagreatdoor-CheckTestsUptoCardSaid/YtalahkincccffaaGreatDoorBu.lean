/-
  Types of the language: do two meet, do all meet one; what a number, a text, a sum, a list of numbers comes to.
  typesOf, asksOf; the type of a number, of a text; of their sum (none), of a list of two numbers.
  The type of a sum of a number and a text (none), of a list of two numbers; of a node.
-/
import Derived.Test.YtalahkincccffaaGreatDoorNodA
import Derived.Test.YtalahkincccffaaGreatDoorOl
import Derived.Test.YtalahkincccffaaGreatDoorRl
import Derived.BigRegion
import Derived.Deep.RegionLaw
import Derived.Deep.CutRange
import Derived.Deep.CutBlock
import Derived.Deep.DeepCutAuto
import Derived.Deep.RegionHeld3
import Derived.Deep.RegionWith
import Derived.Test.YtalahkincccffaaGreatDoorBy
namespace Go.Proofs.YtalahkincccffaaGreatDoor
open Go.RowKit
attribute [local go_sem] setCell_drewN cell?_ext frozen?_ext shape?_ext setCell_ext lt_1' ne_1' en_1' le_1' lt_2' ne_2' en_2' le_2' lt_3' ne_3' en_3' le_3' lt_4' ne_4' en_4' le_4' lt_5' ne_5' en_5' le_5' lt_6' ne_6' en_6' le_6' lt_7' ne_7' en_7' le_7' lt_8' ne_8' en_8' le_8' lt_9' ne_9' en_9' le_9' lt_10' ne_10' en_10' le_10' lt_11' ne_11' en_11' le_11' lt_12' ne_12' en_12' le_12'

abbrev Ty := Int × Int
abbrev TyV (a : Ty) : Value := .agg #[.int .i64 a.1, .int .i64 a.2]
def tpE (a : Ty) : List Value := [.int .i64 a.1, .int .i64 a.2]
structure TyG (w : World) : Prop where
  sz : 1 < w.heap.size ∧ 6 < w.heap.size ∧ 4 < w.heap.size ∧ 2 < w.heap.size ∧ 0 < w.heap.size ∧ 5 < w.heap.size ∧ 3 < w.heap.size
  n0 : w.cell? ⟨1, 0, none⟩ = some (.int .i64 2)
  n1 : w.cell? ⟨1, 1, none⟩ = some (.int .i64 0)
  ns0 : w.cell? ⟨6, 0, none⟩ = some (.int .i64 5)
  ns1 : w.cell? ⟨6, 1, none⟩ = some (.int .i64 2)
  l0 : w.cell? ⟨4, 0, none⟩ = some (.int .i64 5)
  l1 : w.cell? ⟨4, 1, none⟩ = some (.int .i64 0)
  t0 : w.cell? ⟨2, 0, none⟩ = some (.int .i64 3)
  t1 : w.cell? ⟨2, 1, none⟩ = some (.int .i64 0)
  b0 : w.cell? ⟨0, 0, none⟩ = some (.int .i64 1)
  b1 : w.cell? ⟨0, 1, none⟩ = some (.int .i64 0)
  d0 : w.cell? ⟨5, 0, none⟩ = some (.int .i64 4)
  d1 : w.cell? ⟨5, 1, none⟩ = some (.int .i64 0)
  a0 : w.cell? ⟨3, 0, none⟩ = some (.int .i64 0)
  a1 : w.cell? ⟨3, 1, none⟩ = some (.int .i64 0)
theorem TyG.below {w w' : World} (h : TyG w) (hb : Below w.heap.size w w') : TyG w' := by
  obtain ⟨⟨s0, s1, s2, s3, s4, s5, s6⟩, c0, c1, c2, c3, c4, c5, c6, c7, c8, c9, c10, c11, c12, c13⟩ := h
  have hs := hb.size
  have hc : ∀ g j, g < w.heap.size → w'.cell? ⟨g, j, none⟩ = w.cell? ⟨g, j, none⟩ := fun g j hg => hb.cell (p := ⟨g, j, none⟩) hg
  exact ⟨⟨by omega, by omega, by omega, by omega, by omega, by omega, by omega⟩, (hc _ _ s0).trans c0, (hc _ _ s0).trans c1, (hc _ _ s1).trans c2, (hc _ _ s1).trans c3, (hc _ _ s2).trans c4, (hc _ _ s2).trans c5, (hc _ _ s3).trans c6, (hc _ _ s3).trans c7, (hc _ _ s4).trans c8, (hc _ _ s4).trans c9, (hc _ _ s5).trans c10, (hc _ _ s5).trans c11, (hc _ _ s6).trans c12, (hc _ _ s6).trans c13⟩
theorem ty_eq (a b : Ty) (w : World) : (Op.equalIn 10000 26 (TyV a) (TyV b)).run Tryz.prog w = .ok (decide (a = b)) w := by
  have u2 := Tryz.underlying3
  have a2 := Tryz.isAgg3
  have z2 := Tryz.sizeOf3
  have hS : Tryz.prog.underlying 26 = some (.struct (Tryz.prog.fieldsOf 26)) := by kernel_rfl
  have hp : Tryz.prog.stoodInHeld 26 = false := by kernel_rfl
  have hd : decide (a = b) = (a.1 == b.1 && a.2 == b.2) := by
    rw [Bool.eq_iff_iff]; simp [Prod.ext_iff]
  rw [hd, show (10000 : Nat) = 9999 + 1 from rfl, run_equalIn_agg w 9999 26 _ _ hS hp]
  simp only [Program.fieldsOf, Tryz.underlying26]
  cases h1 : a.1 == b.1 <;> cases h2 : a.2 == b.2 <;> go_simp
def meetB (a b : Ty) : Bool := decide (a = (0, 0)) || (decide (b = (0, 0)) || (decide (a = b) || (decide (a.1 = 5) && (decide (b.1 = 5) && (decide (a = (5, 0)) || decide (b = (5, 0)))))))
set_option maxRecDepth 100000 in
set_option maxHeartbeats 4000000 in
theorem meets_any (a b : Ty) (w : World) (hG : TyG w) : Calls Tryz.prog 57 #[TyV a, TyV b] w fun e w' => e = .returned (.bool (meetB a b)) ∧ Below w.heap.size w w' := by
  have hmg : Tryz.prog.eqGuardType Tryz.prog.depth 26 = false := by kernel_rfl
  have e1 := fun w => ty_eq a (0, 0) w
  have e2 := fun w => ty_eq b (0, 0) w
  have e3 := fun w => ty_eq a b w
  have e4 := fun w => ty_eq a (5, 0) w
  have e5 := fun w => ty_eq b (5, 0) w
  have q1 := beq_dec a.1 5
  have q2 := beq_dec b.1 5
  obtain ⟨r, hr⟩ : ∃ r, r = meetB a b := ⟨_, rfl⟩
  have hr2 : r = (decide (a = (0, 0)) || (decide (b = (0, 0)) || (decide (a = b) || (decide (a.1 = 5) && (decide (b.1 = 5) && (decide (a = (5, 0)) || decide (b = (5, 0)))))))) := hr
  rw [← hr]
  clear hr
  have hg := hG.sz
  have gl0 := hG.l0
  have gl1 := hG.l1
  have ga0 := hG.a0
  have ga1 := hG.a1
  clear hG
  obtain ⟨a1, a2⟩ := a
  obtain ⟨b1, b2⟩ := b
  simp only at e1 e2 e3 e4 e5 q1 q2 hr2 ⊢
  obtain ⟨p1, h1⟩ : ∃ p, p = decide ((a1, a2) = ((0, 0) : Ty)) := ⟨_, rfl⟩
  obtain ⟨p2, h2⟩ : ∃ p, p = decide ((b1, b2) = ((0, 0) : Ty)) := ⟨_, rfl⟩
  obtain ⟨p3, h3⟩ : ∃ p, p = decide ((a1, a2) = ((b1, b2) : Ty)) := ⟨_, rfl⟩
  obtain ⟨p4, h4⟩ : ∃ p, p = decide ((a1, a2) = ((5, 0) : Ty)) := ⟨_, rfl⟩
  obtain ⟨p5, h5⟩ : ∃ p, p = decide ((b1, b2) = ((5, 0) : Ty)) := ⟨_, rfl⟩
  obtain ⟨k1, h6⟩ : ∃ p, p = decide (a1 = 5) := ⟨_, rfl⟩
  obtain ⟨k2, h7⟩ : ∃ p, p = decide (b1 = 5) := ⟨_, rfl⟩
  rw [← h1] at e1 hr2
  rw [← h2] at e2 hr2
  rw [← h3] at e3 hr2
  rw [← h4] at e4 hr2
  rw [← h5] at e5 hr2
  rw [← h6] at q1 hr2
  rw [← h7] at q2 hr2
  clear h1 h2 h3 h4 h5 h6 h7
  cases p1
  case true =>
    subst hr2
    go_enter Tryz.func57, Tryz.ntmps57
    go_wp2
    go_ret
    exact ⟨rfl, by (repeat' (first | (with_reducible first | exact Below.refl _ _ | assumption | refine Below.alloc ?_ ?_ _ | refine below_drewN ?_ _ | refine below_drew ?_ | refine below_ext ?_ ?_ _ _ | refine Below.setCell ?_ ?_ _) | (simp; done) | (simp; omega) | omega))⟩
  cases p2
  case true =>
    subst hr2
    go_enter Tryz.func57, Tryz.ntmps57
    go_wp2
    go_ret
    exact ⟨rfl, by (repeat' (first | (with_reducible first | exact Below.refl _ _ | assumption | refine Below.alloc ?_ ?_ _ | refine below_drewN ?_ _ | refine below_drew ?_ | refine below_ext ?_ ?_ _ _ | refine Below.setCell ?_ ?_ _) | (simp; done) | (simp; omega) | omega))⟩
  cases p3
  case true =>
    subst hr2
    go_enter Tryz.func57, Tryz.ntmps57
    go_wp2
    go_ret
    exact ⟨rfl, by (repeat' (first | (with_reducible first | exact Below.refl _ _ | assumption | refine Below.alloc ?_ ?_ _ | refine below_drewN ?_ _ | refine below_drew ?_ | refine below_ext ?_ ?_ _ _ | refine Below.setCell ?_ ?_ _) | (simp; done) | (simp; omega) | omega))⟩
  cases k1
  case false =>
    subst hr2
    go_enter Tryz.func57, Tryz.ntmps57
    go_wp2
    go_ret
    exact ⟨rfl, by (repeat' (first | (with_reducible first | exact Below.refl _ _ | assumption | refine Below.alloc ?_ ?_ _ | refine below_drewN ?_ _ | refine below_drew ?_ | refine below_ext ?_ ?_ _ _ | refine Below.setCell ?_ ?_ _) | (simp; done) | (simp; omega) | omega))⟩
  cases k2
  case false =>
    subst hr2
    go_enter Tryz.func57, Tryz.ntmps57
    go_wp2
    go_ret
    exact ⟨rfl, by (repeat' (first | (with_reducible first | exact Below.refl _ _ | assumption | refine Below.alloc ?_ ?_ _ | refine below_drewN ?_ _ | refine below_drew ?_ | refine below_ext ?_ ?_ _ _ | refine Below.setCell ?_ ?_ _) | (simp; done) | (simp; omega) | omega))⟩
  cases p4
  all_goals
    subst hr2
    go_enter Tryz.func57, Tryz.ntmps57
    go_wp2
    go_ret
    exact ⟨rfl, by (repeat' (first | (with_reducible first | exact Below.refl _ _ | assumption | refine Below.alloc ?_ ?_ _ | refine below_drewN ?_ _ | refine below_drew ?_ | refine below_ext ?_ ?_ _ _ | refine Below.setCell ?_ ?_ _) | (simp; done) | (simp; omega) | omega))⟩
set_option maxRecDepth 100000 in
theorem allMeet_any (ts : List Ty) (one : Ty) (n : Nat) (w : World) (v : Value) (hv : RL 2 tpE n w v ts) (hn : n ≤ w.heap.size) (hl : ts.length ≤ 1000) (hG : TyG w) :
    Calls Tryz.prog 78 #[v, TyV one] w fun e w' => e = .returned (.bool (ts.all fun t => meetB t one)) ∧ Below w.heap.size w w' := by
  obtain ⟨p, c, rfl, h2⟩ := hv
  have H2 := Lib.hid h2
  have HB0 := Lib.hid (Below.refl w.heap.size w)
  obtain ⟨len, hlen⟩ : ∃ len, len = ts.length := ⟨_, rfl⟩
  have HL := Lib.hid hlen
  rw [← hlen] at hl ⊢
  have HM := Lib.hid (fun a w' (hb : Below w.heap.size w w') => meets_any a one w' (hG.below hb))
  obtain ⟨R, hR⟩ : ∃ R, R = ts.all fun t => meetB t one := ⟨_, rfl⟩
  have HR := Lib.hid hR
  rw [← hR]
  obtain ⟨o1, o2⟩ := one
  try simp only at HM ⊢
  clear h2 hlen hR hG
  go_enter Tryz.func78, Tryz.ntmps78
  go_wp2
  go_loopw [9] (fun z wr => ∃ k : Nat, z = .int .i64 k ∧ k ≤ len ∧ Hid (Below w.heap.size w wr) ∧ w.heap.size < wr.heap.size ∧ wr.cell? ⟨w.heap.size, 0, none⟩ = some (.int .i64 o1) ∧ wr.cell? ⟨w.heap.size, 1, none⟩ = some (.int .i64 o2) ∧ Hid ((ts.drop k).all (fun t => meetB t (o1, o2)) = R)) (fun z _ => len - (intOf z).toNat)
  case atStart => exact ⟨0, rfl, Nat.zero_le _, Lib.hid (by (repeat' (first | (with_reducible first | exact Below.refl _ _ | assumption | refine Below.alloc ?_ ?_ _ | refine below_drewN ?_ _ | refine below_drew ?_ | refine below_ext ?_ ?_ _ _ | refine Below.setCell ?_ ?_ _) | (simp; done) | (simp; omega) | omega))), by simp, by simp [go_sem], by simp [go_sem], Lib.hid HR.out.symm⟩
  case round =>
    obtain ⟨k, rfl, hk, hbe, hlt, o0, o1c, hro⟩ := hrel
    have hsw := hbe.out.size
    by_cases hkl : k < len
    · have hki : (k : Int) < (len : Int) := by omega
      have hk2 : k < ts.length := by rw [← HL.out]; exact hkl
      obtain ⟨g, o, rfl, hg, hc⟩ := H2.out (by omega)
      obtain ⟨x, y, hxy⟩ : ∃ x y, ts[k] = (x, y) := ⟨_, _, rfl⟩
      have hgr : g < wr.heap.size := by omega
      have c0 : wr.cell? ⟨g, o + k * 2, none⟩ = some (.int .i64 x) := by
        rw [hbe.out.cell (p := ⟨g, _, none⟩) (Nat.lt_of_lt_of_le hg hn)]
        exact hc k hk2 0 _ (by rw [hxy]; rfl)
      have c1 : wr.cell? ⟨g, o + k * 2 + 1, none⟩ = some (.int .i64 y) := by
        rw [hbe.out.cell (p := ⟨g, _, none⟩) (Nat.lt_of_lt_of_le hg hn)]
        exact hc k hk2 1 _ (by rw [hxy]; rfl)
      have hdr : ts.drop k = (x, y) :: ts.drop (k + 1) := by rw [List.drop_eq_getElem_cons hk2, hxy]
      have HRO := Lib.hid (show R = (meetB (x, y) (o1, o2) && (ts.drop (k + 1)).all (fun t => meetB t (o1, o2))) by rw [← hro.out, hdr]; rfl)
      have HM1 := Lib.hid (fun w' (hb : Below wr.heap.size wr w') => HM.out (x, y) w' (hbe.out.trans (hb.mono hsw)))
      generalize meetB (x, y) (o1, o2) = m at HM1 HRO
      have HBE := Lib.hid hbe.out
      clear hc hdr hro hxy hbe HM hk2
      cases m with
      | false =>
        have HF := Lib.hid (show R = false by rw [HRO.out]; rfl)
        go_wp2_with (first | (go_at_call 57; ((with_reducible refine (HM1.out _ (by (repeat' (first | (with_reducible first | exact Below.refl _ _ | assumption | refine Below.alloc ?_ ?_ _ | refine below_drewN ?_ _ | refine below_drew ?_ | refine below_ext ?_ ?_ _ _ | refine Below.setCell ?_ ?_ _) | (simp; done) | (simp; omega) | omega)))).mono ?_); rintro e w1 ⟨rfl, hb1⟩; obtain ⟨osA, dA, rfl⟩ := ext_of_below hb1; clear hb1)))
        go_ret
        exact ⟨by rw [HF.out]; rfl, HBE.out.trans (show Below w.heap.size wr _ by (repeat' (first | (with_reducible first | exact Below.refl _ _ | assumption | refine Below.alloc ?_ ?_ _ | refine below_drewN ?_ _ | refine below_drew ?_ | refine below_ext ?_ ?_ _ _ | refine Below.setCell ?_ ?_ _) | (simp; done) | (simp; omega) | omega)))⟩
      | true =>
        have HF := Lib.hid (show (ts.drop (k + 1)).all (fun t => meetB t (o1, o2)) = R by rw [HRO.out]; rfl)
        go_wp2_with (first | (go_at_call 57; ((with_reducible refine (HM1.out _ (by (repeat' (first | (with_reducible first | exact Below.refl _ _ | assumption | refine Below.alloc ?_ ?_ _ | refine below_drewN ?_ _ | refine below_drew ?_ | refine below_ext ?_ ?_ _ _ | refine Below.setCell ?_ ?_ _) | (simp; done) | (simp; omega) | omega)))).mono ?_); rintro e w1 ⟨rfl, hb1⟩; obtain ⟨osA, dA, rfl⟩ := ext_of_below hb1; clear hb1)))
        go_roundw
        case rel => exact ⟨k + 1, by go_num, by omega, Lib.hid (HBE.out.trans (show Below w.heap.size wr _ by (repeat' (first | (with_reducible first | exact Below.refl _ _ | assumption | refine Below.alloc ?_ ?_ _ | refine below_drewN ?_ _ | refine below_drew ?_ | refine below_ext ?_ ?_ _ _ | refine Below.setCell ?_ ?_ _) | (simp; done) | (simp; omega) | omega)))), by simp; omega, by simp [go_sem, *], by simp [go_sem, *], HF⟩
        case measure => simp [intOf]; omega
    · obtain rfl : k = len := by omega
      have hki : ¬ (k : Int) < k := by omega
      have HF := Lib.hid (show R = true by rw [← hro.out, List.drop_eq_nil_of_le (by rw [← HL.out]; exact Nat.le_refl _)]; rfl)
      go_wp2
      go_ret
      exact ⟨by rw [HF.out]; rfl, hbe.out.trans (show Below w.heap.size wr _ by (repeat' (first | (with_reducible first | exact Below.refl _ _ | assumption | refine Below.alloc ?_ ?_ _ | refine below_drewN ?_ _ | refine below_drew ?_ | refine below_ext ?_ ?_ _ _ | refine Below.setCell ?_ ?_ _) | (simp; done) | (simp; omega) | omega)))⟩
end Go.Proofs.YtalahkincccffaaGreatDoor
namespace Go.Proofs.YtalahkincccffaaGreatDoor
open Go.RowKit
attribute [local go_sem] setCell_drewN cell?_ext frozen?_ext shape?_ext setCell_ext lt_1' ne_1' en_1' le_1' lt_2' ne_2' en_2' le_2' lt_3' ne_3' en_3' le_3' lt_4' ne_4' en_4' le_4' lt_5' ne_5' en_5' le_5' lt_6' ne_6' en_6' le_6' lt_7' ne_7' en_7' le_7' lt_8' ne_8' en_8' le_8' lt_9' ne_9' en_9' le_9' lt_10' ne_10' en_10' le_10' lt_11' ne_11' en_11' le_11' lt_12' ne_12' en_12' le_12'

def tpK : El := { T := 26, S := 63, size := 2, bytes := 16, zero := .agg #[.int .i64 0, .int .i64 0] }
theorem tpK_ok : tpK.Ok Tryz.prog := ⟨Tryz.underlying63, by kernel_rfl, by rfl, by decide, by decide, by decide⟩
theorem tpE_cells : Cells tpK tpE := fun s => ⟨rfl, fun u hu => by
  unfold tpE at hu
  simp at hu
  rcases hu with rfl | rfl <;> rfl⟩
def itcE (a : Ty) : List Value := [.int .i64 a.1, .int .i64 a.2, .slice none 0 0]
set_option maxRecDepth 100000 in
theorem typesOf_any (ts : List Ty) (n : Nat) (w : World) (v : Value) (hv : RL 3 itcE n w v ts) (hn : n ≤ w.heap.size) (hl : ts.length ≤ 1000) :
    Calls Tryz.prog 31 #[v] w fun e w' => ∃ pv, e = .returned pv ∧ RL 2 tpE w'.heap.size w' pv ts ∧ Below w.heap.size w w' := by
  obtain ⟨p, c, rfl, h2⟩ := hv
  have H2 := Lib.hid h2
  have HD0 := Lib.hid (OL.nil tpK tpE w.heap.size w)
  obtain ⟨len, hlen⟩ : ∃ len, len = ts.length := ⟨_, rfl⟩
  have HL := Lib.hid hlen
  rw [← hlen] at hl ⊢
  clear h2 hlen
  go_enter Tryz.func31, Tryz.ntmps31
  go_wp2
  go_loopw [3, 8] (fun x z wr => ∃ k : Nat, z = .int .i64 k ∧ k ≤ len ∧ Hid (Below w.heap.size w wr) ∧ Hid (OL tpK tpE w.heap.size wr x (ts.take k))) (fun _ z _ => len - (intOf z).toNat)
  case atStart => exact ⟨0, rfl, Nat.zero_le _, Lib.hid (Below.refl _ _), HD0⟩
  case round =>
    obtain ⟨k, rfl, hk, hbe, hol⟩ := hrel
    clear HD0
    have hsw := hbe.out.size
    obtain ⟨q, cp, hvs, hq, hcp⟩ := OL.form hol.out
    have htl : (ts.take k).length = k := by rw [List.length_take, ← HL.out]; omega
    rw [htl] at hvs
    obtain rfl : u3 = .slice q k cp := hvs
    have HOWN := Lib.hid (show ∀ k2, (Value.slice q k cp).ownBlock = some k2 → w.heap.size ≤ k2 from fun k2 h2 => (World.ownsRow.lt hol.out k2 h2).1)
    by_cases hkl : k < len
    · have hki : (k : Int) < (len : Int) := by omega
      have hk2 : k < ts.length := by rw [← HL.out]; exact hkl
      obtain ⟨g, o, rfl, hg, hc⟩ := H2.out (by omega)
      obtain ⟨x, y, hxy⟩ : ∃ x y, ts[k] = (x, y) := ⟨_, _, rfl⟩
      have hgr : g < wr.heap.size := by omega
      have c0 : wr.cell? ⟨g, o + k * 3, none⟩ = some (.int .i64 x) := by
        rw [hbe.out.cell (p := ⟨g, _, none⟩) (Nat.lt_of_lt_of_le hg hn)]
        exact hc k hk2 0 _ (by rw [hxy]; rfl)
      have c1 : wr.cell? ⟨g, o + k * 3 + 1, none⟩ = some (.int .i64 y) := by
        rw [hbe.out.cell (p := ⟨g, _, none⟩) (Nat.lt_of_lt_of_le hg hn)]
        exact hc k hk2 1 _ (by rw [hxy]; rfl)
      have c2 : wr.cell? ⟨g, o + k * 3 + 2, none⟩ = some (.slice none 0 0) := by
        rw [hbe.out.cell (p := ⟨g, _, none⟩) (Nat.lt_of_lt_of_le hg hn)]
        exact hc k hk2 2 _ (by rw [hxy]; rfl)
      have HTK := Lib.hid (show ts.take (k + 1) = ts.take k ++ [(x, y)] by rw [List.take_add_one, List.getElem?_eq_getElem hk2, hxy]; rfl)
      have HOL := Lib.hid (fun w' (hb : Below wr.heap.size wr w') => OL.new hol.out hb)
      have HBR := Lib.hid hbe.out
      have hlk : (ts.take k).length ≤ 1000000 := by rw [htl]; omega
      have HTL := Lib.hid htl
      generalize ts.take k = t1 at HTK HOL hlk HTL
      clear hc hol hbe htl hxy hk2
      go_wp2_with (first
        | (at_builtin; refine wpList_append_ol tpK_ok tpE_cells rfl _ _ rfl rfl _ (x, y) rfl (HOL.out _ (by (repeat' (first | (with_reducible first | exact Below.refl _ _ | assumption | refine Below.alloc ?_ ?_ _ | refine below_drewN ?_ _ | refine below_drew ?_ | refine below_ext ?_ ?_ _ _ | refine Below.setCell ?_ ?_ _) | (simp; done) | (simp; omega) | omega)))) (by simp [Act.eval]) hlk (by (repeat' (first | (with_reducible first | exact Below.refl _ _ | assumption | refine Below.alloc ?_ ?_ _ | refine below_drewN ?_ _ | refine below_drew ?_ | refine below_ext ?_ ?_ _ _ | refine Below.setCell ?_ ?_ _) | (simp; done) | (simp; omega) | omega))) ?_; intro g2 cap2 w2 hob3 hoth hat hg2 hsz2; rw [HTL.out] at hob3; have HO2 := Lib.hid (HTK.out ▸ hob3); have HB2 := Lib.hid ((HBR.out.trans (show Below w.heap.size wr _ by (repeat' (first | (with_reducible first | exact Below.refl _ _ | assumption | refine Below.alloc ?_ ?_ _ | refine below_drewN ?_ _ | refine below_drew ?_ | refine below_ext ?_ ?_ _ _ | refine Below.setCell ?_ ?_ _) | (simp; done) | (simp; omega) | omega)))).trans (hoth.below (by first | omega | (simp; omega)) (fun k hk => HOWN.out k hk))); clear hob3 hoth hat hg2 hsz2))
      have hL1 := HTL.out
      go_roundw
      case rel => exact ⟨k + 1, by go_num, by omega, HB2, (by first | exact HO2 | (rw [hL1]; exact HO2))⟩
      case measure => simp [intOf]; omega
    · obtain rfl : k = len := by omega
      have hki : ¬ (k : Int) < k := by omega
      have htk : ts.take k = ts := List.take_of_length_le (by rw [← HL.out]; exact Nat.le_refl _)
      have HO := Lib.hid (show OL tpK tpE w.heap.size wr (.slice q k cp) ts by rw [← htk]; exact hol.out)
      go_wp2
      go_ret
      refine ⟨_, rfl, ⟨q, cp, by rw [← HL.out]; rfl, fun h0 => ?_⟩, hbe.out⟩
      obtain ⟨g, rfl, -, hg⟩ := hq (by rw [htl, HL.out]; exact h0)
      exact ⟨g, 0, rfl, hg, fun j hj i u hu => by
        have := OL.cell tpE_cells HO.out j i hj hu
        rwa [show j * tpK.size + i = 0 + j * 2 + i by show j * 2 + i = _; omega] at this⟩
set_option maxRecDepth 100000 in
theorem asksOf_none (op : Int) (h : op < 30 ∨ 37 < op) (ts : List Ty) (n : Nat) (w : World) (v : Value) (hv : RL 3 itcE n w v ts) (hn : n ≤ w.heap.size) (hl : ts.length ≤ 1000) :
    Calls Tryz.prog 32 #[.int .i64 op, v] w fun e w' => e = .returned (.slice none 0 0) ∧ Below w.heap.size w w' := by
  obtain ⟨p, c, rfl, h2⟩ := hv
  have H2 := Lib.hid h2
  obtain ⟨len, hlen⟩ : ∃ len, len = ts.length := ⟨_, rfl⟩
  have HL := Lib.hid hlen
  rw [← hlen] at hl ⊢
  have q30 : (op == 30) = false := beq_eq_false_iff_ne.2 (by omega)
  have q31 : (op == 31) = false := beq_eq_false_iff_ne.2 (by omega)
  have q32 : (op == 32) = false := beq_eq_false_iff_ne.2 (by omega)
  have q33 : (op == 33) = false := beq_eq_false_iff_ne.2 (by omega)
  have q34 : (op == 34) = false := beq_eq_false_iff_ne.2 (by omega)
  have q35 : (op == 35) = false := beq_eq_false_iff_ne.2 (by omega)
  have q36 : (op == 36) = false := beq_eq_false_iff_ne.2 (by omega)
  have q37 : (op == 37) = false := beq_eq_false_iff_ne.2 (by omega)
  clear h2 hlen h
  go_enter Tryz.func32, Tryz.ntmps32
  go_wp2
  go_loopw [5, 10] (fun x z wr => ∃ k : Nat, x = .slice none 0 0 ∧ z = .int .i64 k ∧ k ≤ len ∧ Hid (Below w.heap.size w wr)) (fun _ z _ => len - (intOf z).toNat)
  case atStart => exact ⟨0, rfl, rfl, Nat.zero_le _, Lib.hid (Below.refl _ _)⟩
  case round =>
    obtain ⟨k, rfl, rfl, hk, hbe⟩ := hrel
    have hsw := hbe.out.size
    by_cases hkl : k < len
    · have hki : (k : Int) < (len : Int) := by omega
      have hk2 : k < ts.length := by rw [← HL.out]; exact hkl
      obtain ⟨g, o, rfl, hg, hc⟩ := H2.out (by omega)
      obtain ⟨x, y, hxy⟩ : ∃ x y, ts[k] = (x, y) := ⟨_, _, rfl⟩
      have hgr : g < wr.heap.size := by omega
      have c0 : wr.cell? ⟨g, o + k * 3, none⟩ = some (.int .i64 x) := by
        rw [hbe.out.cell (p := ⟨g, _, none⟩) (Nat.lt_of_lt_of_le hg hn)]
        exact hc k hk2 0 _ (by rw [hxy]; rfl)
      have c1 : wr.cell? ⟨g, o + k * 3 + 1, none⟩ = some (.int .i64 y) := by
        rw [hbe.out.cell (p := ⟨g, _, none⟩) (Nat.lt_of_lt_of_le hg hn)]
        exact hc k hk2 1 _ (by rw [hxy]; rfl)
      have c2 : wr.cell? ⟨g, o + k * 3 + 2, none⟩ = some (.slice none 0 0) := by
        rw [hbe.out.cell (p := ⟨g, _, none⟩) (Nat.lt_of_lt_of_le hg hn)]
        exact hc k hk2 2 _ (by rw [hxy]; rfl)
      have HBR := Lib.hid hbe.out
      clear hc hbe hxy hk2
      go_wp2
      go_roundw
      case rel => exact ⟨k + 1, rfl, by go_num, by omega, Lib.hid (HBR.out.trans (show Below w.heap.size wr _ by (repeat' (first | (with_reducible first | exact Below.refl _ _ | assumption | refine Below.alloc ?_ ?_ _ | refine below_drewN ?_ _ | refine below_drew ?_ | refine below_ext ?_ ?_ _ _ | refine Below.setCell ?_ ?_ _) | (simp; done) | (simp; omega) | omega))))⟩
      case measure => simp [intOf]; omega
    · obtain rfl : k = len := by omega
      have hki : ¬ (k : Int) < k := by omega
      go_wp2
      go_ret
      exact ⟨rfl, hbe.out⟩
theorem errorUnless_any (b : Bool) (e : Int) (w : World) : Calls Tryz.prog 53 #[.bool b, .int .i64 e] w fun en w' => en = .returned (.int .i64 (if b then 0 else e)) ∧ w' = w := by
  cases b
  all_goals
    go_enter Tryz.func53, Tryz.ntmps53
    go_wp2
    go_ret
    exact ⟨rfl, rfl⟩
theorem simpleType_num (w : World) (hG : TyG w) : Calls Tryz.prog 59 #[.int .i64 4] w fun en w' => en = .returned (TyV (2, 0)) ∧ Below w.heap.size w w' := by
  have hg := hG.sz
  have g0 := hG.n0
  have g1 := hG.n1
  clear hG
  go_enter Tryz.func59, Tryz.ntmps59
  go_wp2
  go_returns
  exact ⟨rfl, by (repeat' (first | (with_reducible first | exact Below.refl _ _ | assumption | refine Below.alloc ?_ ?_ _ | refine below_drewN ?_ _ | refine below_drew ?_ | refine below_ext ?_ ?_ _ _ | refine Below.setCell ?_ ?_ _) | (simp; done) | (simp; omega) | omega))⟩
theorem simpleType_text (w : World) (hG : TyG w) : Calls Tryz.prog 59 #[.int .i64 5] w fun en w' => en = .returned (TyV (3, 0)) ∧ Below w.heap.size w w' := by
  have hg := hG.sz
  have g0 := hG.t0
  have g1 := hG.t1
  clear hG
  go_enter Tryz.func59, Tryz.ntmps59
  go_wp2
  go_returns
  exact ⟨rfl, by (repeat' (first | (with_reducible first | exact Below.refl _ _ | assumption | refine Below.alloc ?_ ?_ _ | refine below_drewN ?_ _ | refine below_drew ?_ | refine below_ext ?_ ?_ _ _ | refine Below.setCell ?_ ?_ _) | (simp; done) | (simp; omega) | omega))⟩
theorem simple_leaf (op : Int) (h : op = 4 ∨ op = 5) (v : Value) (w : World) : Calls Tryz.prog 60 #[.int .i64 op, v] w fun en w' => en = .returned (.bool true) ∧ w' = w := by
  rcases h with rfl | rfl
  all_goals
    go_enter Tryz.func60, Tryz.ntmps60
    go_wp2
    go_ret
    exact ⟨rfl, rfl⟩
end Go.Proofs.YtalahkincccffaaGreatDoor
namespace Go.Proofs.YtalahkincccffaaGreatDoor
open Go.RowKit Word
attribute [local go_sem] setCell_drewN cell?_ext frozen?_ext shape?_ext setCell_ext lt_1' ne_1' en_1' le_1' lt_2' ne_2' en_2' le_2' lt_3' ne_3' en_3' le_3' lt_4' ne_4' en_4' le_4' lt_5' ne_5' en_5' le_5' lt_6' ne_6' en_6' le_6' lt_7' ne_7' en_7' le_7' lt_8' ne_8' en_8' le_8' lt_9' ne_9' en_9' le_9' lt_10' ne_10' en_10' le_10' lt_11' ne_11' en_11' le_11' lt_12' ne_12' en_12' le_12'

theorem cutX {P : Program} {c : Code} {Q : Exit → Act → World → Prop} {a : Act} {w : World} (F : World → Prop) (h : F w) (hK : ∀ W, F W → Code.wp P c Q a W) : Code.wp P c Q a w := hK w h
set_option maxRecDepth 100000 in
theorem form_listnum (w : World) : Calls Tryz.prog 16 #[TyV (5, 2)] w fun en w' => en = .returned (.bool true) ∧ Below w.heap.size w w' := by
  go_enter Tryz.func16, Tryz.ntmps16
  go_wp2
  go_ret
  exact ⟨rfl, by (repeat' (first | (with_reducible first | exact Below.refl _ _ | assumption | refine Below.alloc ?_ ?_ _ | refine below_drewN ?_ _ | refine below_drew ?_ | refine below_ext ?_ ?_ _ _ | refine Below.setCell ?_ ?_ _) | (simp; done) | (simp; omega) | omega))⟩
theorem two_rl {w : World} {g o c : Nat} (a b : Ty) (hg : g < w.heap.size) (c0 : w.cell? ⟨g, o, none⟩ = some (.int .i64 a.1)) (c1 : w.cell? ⟨g, o + 1, none⟩ = some (.int .i64 a.2)) (c2 : w.cell? ⟨g, o + 2, none⟩ = some (.int .i64 b.1)) (c3 : w.cell? ⟨g, o + 3, none⟩ = some (.int .i64 b.2)) : RL 2 tpE w.heap.size w (.slice (some ⟨g, o, none⟩) 2 c) [a, b] := by
  refine ⟨_, c, rfl, fun _ => ⟨g, o, rfl, hg, fun j hj i u hu => ?_⟩⟩
  have hj2 : j = 0 ∨ j = 1 := by simp at hj; omega
  have hi2 : i < 2 := by
    have := (List.getElem?_eq_some_iff.1 hu).1
    simpa [tpE] using this
  have hi3 : i = 0 ∨ i = 1 := by omega
  rcases hj2 with rfl | rfl <;> rcases hi3 with rfl | rfl
  · rw [← show (some (Value.int .i64 a.1)) = some u from hu]; exact c0
  · rw [← show (some (Value.int .i64 a.2)) = some u from hu]; exact c1
  · rw [← show (some (Value.int .i64 b.1)) = some u from hu]; exact c2
  · rw [← show (some (Value.int .i64 b.2)) = some u from hu]; exact c3
set_option maxRecDepth 100000 in
theorem sumOf_nt (w : World) (hG : TyG w) : Calls Tryz.prog 55 #[TyV (2, 0), TyV (3, 0)] w fun en w' => en = .returned (.tuple #[TyV (0, 0), .int .i64 9]) ∧ Below w.heap.size w w' := by
  have HG := Lib.hid (fun w' (hb : Below w.heap.size w w') => hG.below hb)
  clear hG
  go_enter Tryz.func55, Tryz.ntmps55
  go_upto_region 2 with fail
  obtain ⟨b, hb⟩ : ∃ b, b = w.heap.size + 1 + 1 + 1 := ⟨_, rfl⟩
  rw [← hb]
  refine cutX (fun W => Below w.heap.size w W ∧ w.heap.size + 1 + 1 < W.heap.size ∧ b < W.heap.size ∧ W.cell? ⟨b, 0, none⟩ = some (.int .i64 2) ∧ W.cell? ⟨b, 1, none⟩ = some (.int .i64 0) ∧ W.cell? ⟨b, 2, none⟩ = some (.int .i64 3) ∧ W.cell? ⟨b, 3, none⟩ = some (.int .i64 0) ∧ W.cell? ⟨w.heap.size + 1 + 1, 0, none⟩ = some (.int .i64 0) ∧ W.cell? ⟨w.heap.size + 1 + 1, 1, none⟩ = some (.int .i64 0) ∧ W.frozen? ⟨w.heap.size + 1 + 1, 0, none⟩ = false ∧ W.frozen? ⟨w.heap.size + 1 + 1, 1, none⟩ = false) ?_ ?_
  · subst hb
    refine ⟨by (repeat' (first | (with_reducible first | exact Below.refl _ _ | assumption | refine Below.alloc ?_ ?_ _ | refine below_drewN ?_ _ | refine below_drew ?_ | refine below_ext ?_ ?_ _ _ | refine Below.setCell ?_ ?_ _) | (simp; done) | (simp; omega) | omega)), ?_⟩
    simp [go_sem]
  intro W ⟨hbW, hsW, hbl, b0, b1, b2, b3, r0, r1, f0, f1⟩
  clear hb
  have hGW := HG.out _ hbW
  have hg := hGW.sz
  have g0 := hGW.n0
  have g1 := hGW.n1
  have g2 := hGW.t0
  have g3 := hGW.t1
  have hsw := hbW.size
  have HRL := Lib.hid (fun w' (h : Below W.heap.size W w') => two_rl (w := w') (g := b) (o := 0) (c := 2) (2, 0) (3, 0) (Nat.lt_of_lt_of_le hbl h.size) ((h.cell (p := ⟨b, _, none⟩) hbl).trans b0) ((h.cell (p := ⟨b, _, none⟩) hbl).trans b1) ((h.cell (p := ⟨b, _, none⟩) hbl).trans b2) ((h.cell (p := ⟨b, _, none⟩) hbl).trans b3))
  have HA1 := Lib.hid (show ∀ w', Below W.heap.size W w' → Calls Tryz.prog 78 #[.slice (some ⟨b, 0, none⟩) 2 2, .agg #[.int .i64 2, .int .i64 0]] w' fun e w'' => e = .returned (.bool false) ∧ Below w'.heap.size w' w'' from fun w' h => allMeet_any [(2, 0), (3, 0)] (2, 0) w'.heap.size w' _ (HRL.out w' h) (Nat.le_refl _) (by decide) (hGW.below h))
  have HA2 := Lib.hid (show ∀ w', Below W.heap.size W w' → Calls Tryz.prog 78 #[.slice (some ⟨b, 0, none⟩) 2 2, .agg #[.int .i64 3, .int .i64 0]] w' fun e w'' => e = .returned (.bool false) ∧ Below w'.heap.size w' w'' from fun w' h => allMeet_any [(2, 0), (3, 0)] (3, 0) w'.heap.size w' _ (HRL.out w' h) (Nat.le_refl _) (by decide) (hGW.below h))
  have KEEP := Lib.hid (show ∀ w', Below W.heap.size W w' → w'.cell? ⟨1, 0, none⟩ = some (.int .i64 2) ∧ w'.cell? ⟨1, 1, none⟩ = some (.int .i64 0) ∧ w'.cell? ⟨2, 0, none⟩ = some (.int .i64 3) ∧ w'.cell? ⟨2, 1, none⟩ = some (.int .i64 0) from fun w' h => ⟨(hGW.below h).n0, (hGW.below h).n1, (hGW.below h).t0, (hGW.below h).t1⟩)
  have KEEP2 := Lib.hid (show ∀ w', Below W.heap.size W w' → Below w.heap.size w w' ∧ w.heap.size + 1 + 1 < w'.heap.size ∧ w'.cell? ⟨w.heap.size + 1 + 1, 0, none⟩ = some (.int .i64 0) ∧ w'.cell? ⟨w.heap.size + 1 + 1, 1, none⟩ = some (.int .i64 0) ∧ w'.frozen? ⟨w.heap.size + 1 + 1, 0, none⟩ = false ∧ w'.frozen? ⟨w.heap.size + 1 + 1, 1, none⟩ = false from fun w' h => ⟨hbW.trans (h.mono hsw), Nat.lt_of_lt_of_le hsW h.size, (h.cell (p := ⟨_, _, none⟩) hsW).trans r0, (h.cell (p := ⟨_, _, none⟩) hsW).trans r1, (h.frozen (p := ⟨_, _, none⟩) hsW).trans f0, (h.frozen (p := ⟨_, _, none⟩) hsW).trans f1⟩)
  clear hGW r0 r1 f0 f1
  go_region_held3 (fun w' => w'.cell? ⟨1, 0, none⟩ = some (.int .i64 2) ∧ w'.cell? ⟨1, 1, none⟩ = some (.int .i64 0) ∧ w'.cell? ⟨2, 0, none⟩ = some (.int .i64 3) ∧ w'.cell? ⟨2, 1, none⟩ = some (.int .i64 0)) (exact KEEP.out _ (by (repeat' (first | (with_reducible first | exact Below.refl _ _ | assumption | refine Below.alloc ?_ ?_ _ | refine below_drewN ?_ _ | refine below_drew ?_ | refine below_ext ?_ ?_ _ _ | refine Below.setCell ?_ ?_ _) | (simp; done) | (simp; omega) | omega)))) (first
    | (go_at_call 78; ((with_reducible refine (HA1.out _ (by (repeat' (first | (with_reducible first | exact Below.refl _ _ | assumption | refine Below.alloc ?_ ?_ _ | refine below_drewN ?_ _ | refine below_drew ?_ | refine below_ext ?_ ?_ _ _ | refine Below.setCell ?_ ?_ _) | (simp; done) | (simp; omega) | omega)))).mono ?_); rintro e w1 ⟨rfl, hb1⟩; obtain ⟨osA, dA, rfl⟩ := ext_of_below hb1; clear hb1))
    | (go_at_call 78; ((with_reducible refine (HA2.out _ (by (repeat' (first | (with_reducible first | exact Below.refl _ _ | assumption | refine Below.alloc ?_ ?_ _ | refine below_drewN ?_ _ | refine below_drew ?_ | refine below_ext ?_ ?_ _ _ | refine Below.setCell ?_ ?_ _) | (simp; done) | (simp; omega) | omega)))).mono ?_); rintro e w1 ⟨rfl, hb1⟩; obtain ⟨osB, dB, rfl⟩ := ext_of_below hb1; clear hb1)))
  all_goals
    go_upto_region 3 with fail
    refine cutX (fun W2 => Below w.heap.size w W2 ∧ w.heap.size + 1 + 1 < W2.heap.size ∧ W2.cell? ⟨w.heap.size + 1 + 1, 0, none⟩ = some (.int .i64 0) ∧ W2.cell? ⟨w.heap.size + 1 + 1, 1, none⟩ = some (.int .i64 0) ∧ W2.frozen? ⟨w.heap.size + 1 + 1, 0, none⟩ = false ∧ W2.frozen? ⟨w.heap.size + 1 + 1, 1, none⟩ = false) (KEEP2.out _ (by (repeat' (first | (with_reducible first | exact Below.refl _ _ | assumption | refine Below.alloc ?_ ?_ _ | refine below_drewN ?_ _ | refine below_drew ?_ | refine below_ext ?_ ?_ _ _ | refine Below.setCell ?_ ?_ _) | (simp; done) | (simp; omega) | omega)))) ?_
    intro W2 ⟨hb2, hs2, r0, r1, f0, f1⟩
    have s0 : (W2.setCell ⟨w.heap.size + 1 + 1, 0, none⟩ (.int .i64 0)).cell? ⟨w.heap.size + 1 + 1, 0, none⟩ = some (.int .i64 0) := World.cell?_setCell_same _ _ _ r0
    have s1 : ((W2.setCell ⟨w.heap.size + 1 + 1, 0, none⟩ (.int .i64 0)).setCell ⟨w.heap.size + 1 + 1, 1, none⟩ (.int .i64 0)).cell? ⟨w.heap.size + 1 + 1, 1, none⟩ = some (.int .i64 0) := World.cell?_setCell_same _ _ _ ((World.cell?_setCell_other _ _ _ _ (by intro e2; injection e2 with _ e3; exact absurd e3 (by decide))).trans r1)
    go_wp2
    refine bodyPost_ret (by simp [results, Tryz.results55, go_sem, s0, s1]; try rfl) rfl ?_
    exact ⟨rfl, hb2.trans (by (repeat' (first | (with_reducible first | exact Below.refl _ _ | assumption | refine Below.alloc ?_ ?_ _ | refine below_drewN ?_ _ | refine below_drew ?_ | refine below_ext ?_ ?_ _ _ | refine Below.setCell ?_ ?_ _) | (simp; done) | (simp; omega) | omega)))⟩
set_option maxRecDepth 100000 in
set_option maxHeartbeats 4000000 in
theorem listOf_nn (g o c : Nat) (w : World) (hg : g < w.heap.size) (c0 : w.cell? ⟨g, o, none⟩ = some (.int .i64 2)) (c1 : w.cell? ⟨g, o + 1, none⟩ = some (.int .i64 0)) (c2 : w.cell? ⟨g, o + 2, none⟩ = some (.int .i64 2)) (c3 : w.cell? ⟨g, o + 2 + 1, none⟩ = some (.int .i64 0)) :
    Calls Tryz.prog 58 #[.slice (some ⟨g, o, none⟩) 2 c] w fun en w' => en = .returned (TyV (5, 2)) ∧ Below w.heap.size w w' := by
  have hmg : Tryz.prog.eqGuardType Tryz.prog.depth 26 = false := by kernel_rfl
  have e1 : ∀ w, (Op.equalIn 10000 26 (.agg #[.int .i64 2, .int .i64 0]) (.agg #[.int .i64 2, .int .i64 0])).run Tryz.prog w = .ok true w := fun w => ty_eq (2, 0) (2, 0) w
  have HF := Lib.hid (fun w => form_listnum w)
  have hg1 : g < w.heap.size + 1 := by omega
  have hg2 : g < w.heap.size + 1 + 1 := by omega
  have hg3 : g < w.heap.size + 1 + 1 + 1 := by omega
  have hg4 : g < w.heap.size + 1 + 1 + 1 + 1 := by omega
  go_enter Tryz.func58, Tryz.ntmps58
  go_wp2_with (first
    | (go_at_call 16; ((with_reducible refine (HF.out _).mono ?_); rintro e w1 ⟨rfl, hb1⟩; obtain ⟨osF, dF, rfl⟩ := ext_of_below hb1; clear hb1))
    | go_in)
  refine wp_loop_rounds 3 ?_
  rw [rounds_succ]
  go_wp2_with (first
    | (go_at_call 16; ((with_reducible refine (HF.out _).mono ?_); rintro e w1 ⟨rfl, hb1⟩; obtain ⟨osF, dF, rfl⟩ := ext_of_below hb1; clear hb1))
    | go_in)
  go_region
  go_wp2_with (first
    | (go_at_call 16; ((with_reducible refine (HF.out _).mono ?_); rintro e w1 ⟨rfl, hb1⟩; obtain ⟨osF, dF, rfl⟩ := ext_of_below hb1; clear hb1))
    | go_in)
  rw [rounds_succ]
  go_wp2_with (first
    | (go_at_call 16; ((with_reducible refine (HF.out _).mono ?_); rintro e w1 ⟨rfl, hb1⟩; obtain ⟨osF, dF, rfl⟩ := ext_of_below hb1; clear hb1))
    | go_in)
  go_region
  go_wp2_with (first
    | (go_at_call 16; ((with_reducible refine (HF.out _).mono ?_); rintro e w1 ⟨rfl, hb1⟩; obtain ⟨osF, dF, rfl⟩ := ext_of_below hb1; clear hb1))
    | go_in)
  rw [rounds_succ]
  go_wp2_with (first
    | (go_at_call 16; ((with_reducible refine (HF.out _).mono ?_); rintro e w1 ⟨rfl, hb1⟩; obtain ⟨osF, dF, rfl⟩ := ext_of_below hb1; clear hb1))
    | go_in)
  go_returns
  exact ⟨rfl, by (repeat' (first | (with_reducible first | exact Below.refl _ _ | assumption | refine Below.alloc ?_ ?_ _ | refine below_drewN ?_ _ | refine below_drew ?_ | refine below_ext ?_ ?_ _ _ | refine Below.setCell ?_ ?_ _) | (simp; done) | (simp; omega) | omega))⟩
abbrev ndC (op k : Int) (c : Nat) : NdD := ⟨op, k, ⟨#[]⟩, false, c, 0, 0⟩
set_option maxRecDepth 100000 in
set_option maxHeartbeats 4000000 in
theorem typeOf_leaf (op : Int) (ty : Ty) (c : Nat) (m : Option Nat) (v : Value) (w : World) (h : (op = 4 ∧ ty = (2, 0)) ∨ (op = 5 ∧ ty = (3, 0))) (hG : TyG w) :
    Calls Tryz.prog 30 #[.map m, NodV op 0 ⟨#[]⟩ false (hi c : Int) (lo c : Int) 0 0, v] w fun en w' => en = .returned (.tuple #[TyV ty, .int .i64 0]) ∧ Below w.heap.size w w' := by
  have HE := Lib.hid (show ∀ w, Calls Tryz.prog 53 #[.bool true, .int .i64 9] w fun en w' => en = .returned (.int .i64 0) ∧ w' = w from fun w => errorUnless_any true 9 w)
  have HT := Lib.hid (show ∀ w', Below w.heap.size w w' → Calls Tryz.prog 59 #[.int .i64 op] w' fun en w'' => en = .returned (TyV ty) ∧ Below w'.heap.size w' w'' from fun w' hb => by
    rcases h with ⟨rfl, rfl⟩ | ⟨rfl, rfl⟩
    · exact simpleType_num w' (hG.below hb)
    · exact simpleType_text w' (hG.below hb))
  have HS := Lib.hid (show ∀ v w', Calls Tryz.prog 60 #[.int .i64 op, v] w' fun en w'' => en = .returned (.bool true) ∧ w'' = w' from fun v w' => simple_leaf op (by omega) v w')
  obtain ⟨y1, y2⟩ := ty
  have q7 : (op == 7) = false := beq_eq_false_iff_ne.2 (by omega)
  have q25 : (op == 25) = false := beq_eq_false_iff_ne.2 (by omega)
  have q9 : (op == 9) = false := beq_eq_false_iff_ne.2 (by omega)
  have q21 : (op == 21) = false := beq_eq_false_iff_ne.2 (by omega)
  have q26 : (op == 26) = false := beq_eq_false_iff_ne.2 (by omega)
  generalize (hi c : Int) = a
  generalize (lo c : Int) = b
  clear h hG
  go_enter Tryz.func30, Tryz.ntmps30
  go_upto_region 14 with fail
  go_region_held3 (fun w' => w'.cell? ⟨w.heap.size, 0, none⟩ = some (.int .i64 op)) (simp [go_sem]) (first
    | (go_at_call 59; ((with_reducible refine (HT.out _ (by (repeat' (first | (with_reducible first | exact Below.refl _ _ | assumption | refine Below.alloc ?_ ?_ _ | refine below_drewN ?_ _ | refine below_drew ?_ | refine below_ext ?_ ?_ _ _ | refine Below.setCell ?_ ?_ _) | (simp; done) | (simp; omega) | omega)))).mono ?_); rintro e w1 ⟨rfl, hb1⟩; obtain ⟨osA, dA, rfl⟩ := ext_of_below hb1; clear hb1))
    | (go_at_call 60; ((with_reducible refine (HS.out _ _).mono ?_); rintro e w' ⟨rfl, rfl⟩))
    | (go_at_call 53; ((with_reducible refine (HE.out _).mono ?_); rintro e w' ⟨rfl, rfl⟩)))
  go_wp2
  go_returns
  exact ⟨rfl, by (repeat' (first | (with_reducible first | exact Below.refl _ _ | assumption | refine Below.alloc ?_ ?_ _ | refine below_drewN ?_ _ | refine below_drew ?_ | refine below_ext ?_ ?_ _ _ | refine Below.setCell ?_ ?_ _) | (simp; done) | (simp; omega) | omega))⟩
set_option maxRecDepth 100000 in
set_option maxHeartbeats 4000000 in
theorem typeOf_add (k : Int) (m : Option Nat) (g o c : Nat) (w : World) (hg : g < w.heap.size) (c0 : w.cell? ⟨g, o, none⟩ = some (.int .i64 2)) (c1 : w.cell? ⟨g, o + 1, none⟩ = some (.int .i64 0)) (c2 : w.cell? ⟨g, o + 2, none⟩ = some (.int .i64 3)) (c3 : w.cell? ⟨g, o + 2 + 1, none⟩ = some (.int .i64 0)) (hG : TyG w) :
    Calls Tryz.prog 30 #[.map m, NodV 9 k ⟨#[]⟩ false 0 0 0 0, .slice (some ⟨g, o, none⟩) 2 c] w fun en w' => en = .returned (.tuple #[TyV (0, 0), .int .i64 9]) ∧ Below w.heap.size w w' := by
  have HS := Lib.hid (show ∀ w', Below w.heap.size w w' → Calls Tryz.prog 55 #[.agg #[.int .i64 2, .int .i64 0], .agg #[.int .i64 3, .int .i64 0]] w' fun en w'' => en = .returned (.tuple #[.agg #[.int .i64 0, .int .i64 0], .int .i64 9]) ∧ Below w'.heap.size w' w'' from fun w' hb => sumOf_nt w' (hG.below hb))
  have HK := Lib.hid (show ∀ w', Below w.heap.size w w' → w'.cell? ⟨g, o, none⟩ = some (.int .i64 2) ∧ w'.cell? ⟨g, o + 1, none⟩ = some (.int .i64 0) ∧ w'.cell? ⟨g, o + 2, none⟩ = some (.int .i64 3) ∧ w'.cell? ⟨g, o + 2 + 1, none⟩ = some (.int .i64 0) from fun w' hb => ⟨(hb.cell (p := ⟨g, _, none⟩) hg).trans c0, (hb.cell (p := ⟨g, _, none⟩) hg).trans c1, (hb.cell (p := ⟨g, _, none⟩) hg).trans c2, (hb.cell (p := ⟨g, _, none⟩) hg).trans c3⟩)
  clear hG c0 c1 c2 c3
  go_enter Tryz.func30, Tryz.ntmps30
  go_upto_region 8 with fail
  go_region_held3 (fun w' => w'.cell? ⟨g, o, none⟩ = some (.int .i64 2) ∧ w'.cell? ⟨g, o + 1, none⟩ = some (.int .i64 0) ∧ w'.cell? ⟨g, o + 2, none⟩ = some (.int .i64 3) ∧ w'.cell? ⟨g, o + 2 + 1, none⟩ = some (.int .i64 0)) (exact HK.out _ (by (repeat' (first | (with_reducible first | exact Below.refl _ _ | assumption | refine Below.alloc ?_ ?_ _ | refine below_drewN ?_ _ | refine below_drew ?_ | refine below_ext ?_ ?_ _ _ | refine Below.setCell ?_ ?_ _) | (simp; done) | (simp; omega) | omega)))) (first
    | (go_at_call 55; ((with_reducible refine (HS.out _ (by (repeat' (first | (with_reducible first | exact Below.refl _ _ | assumption | refine Below.alloc ?_ ?_ _ | refine below_drewN ?_ _ | refine below_drew ?_ | refine below_ext ?_ ?_ _ _ | refine Below.setCell ?_ ?_ _) | (simp; done) | (simp; omega) | omega)))).mono ?_); rintro e w1 ⟨rfl, hb1⟩; obtain ⟨osA, dA, rfl⟩ := ext_of_below hb1; clear hb1)))
  all_goals
    go_wp2
    go_returns
    exact ⟨rfl, by (repeat' (first | (with_reducible first | exact Below.refl _ _ | assumption | refine Below.alloc ?_ ?_ _ | refine below_drewN ?_ _ | refine below_drew ?_ | refine below_ext ?_ ?_ _ _ | refine Below.setCell ?_ ?_ _) | (simp; done) | (simp; omega) | omega))⟩
set_option maxRecDepth 100000 in
set_option maxHeartbeats 4000000 in
theorem typeOf_list (k : Int) (m : Option Nat) (g o c : Nat) (w : World) (hg : g < w.heap.size) (c0 : w.cell? ⟨g, o, none⟩ = some (.int .i64 2)) (c1 : w.cell? ⟨g, o + 1, none⟩ = some (.int .i64 0)) (c2 : w.cell? ⟨g, o + 2, none⟩ = some (.int .i64 2)) (c3 : w.cell? ⟨g, o + 2 + 1, none⟩ = some (.int .i64 0)) :
    Calls Tryz.prog 30 #[.map m, NodV 26 k ⟨#[]⟩ false 0 0 0 0, .slice (some ⟨g, o, none⟩) 2 c] w fun en w' => en = .returned (.tuple #[TyV (5, 2), .int .i64 0]) ∧ Below w.heap.size w w' := by
  have HS := Lib.hid (show ∀ w', Below w.heap.size w w' → Calls Tryz.prog 58 #[.slice (some ⟨g, o, none⟩) 2 c] w' fun en w'' => en = .returned (.agg #[.int .i64 5, .int .i64 2]) ∧ Below w'.heap.size w' w'' from fun w' hb => listOf_nn g o c w' (Nat.lt_of_lt_of_le hg hb.size) ((hb.cell (p := ⟨g, _, none⟩) hg).trans c0) ((hb.cell (p := ⟨g, _, none⟩) hg).trans c1) ((hb.cell (p := ⟨g, _, none⟩) hg).trans c2) ((hb.cell (p := ⟨g, _, none⟩) hg).trans c3))
  clear c0 c1 c2 c3
  go_enter Tryz.func30, Tryz.ntmps30
  go_wp2_with (first
    | (go_at_call 58; ((with_reducible refine (HS.out _ (by (repeat' (first | (with_reducible first | exact Below.refl _ _ | assumption | refine Below.alloc ?_ ?_ _ | refine below_drewN ?_ _ | refine below_drew ?_ | refine below_ext ?_ ?_ _ _ | refine Below.setCell ?_ ?_ _) | (simp; done) | (simp; omega) | omega)))).mono ?_); rintro e w1 ⟨rfl, hb1⟩; obtain ⟨osA, dA, rfl⟩ := ext_of_below hb1; clear hb1)))
  go_returns
  exact ⟨rfl, by (repeat' (first | (with_reducible first | exact Below.refl _ _ | assumption | refine Below.alloc ?_ ?_ _ | refine below_drewN ?_ _ | refine below_drew ?_ | refine below_ext ?_ ?_ _ _ | refine Below.setCell ?_ ?_ _) | (simp; done) | (simp; omega) | omega))⟩
end Go.Proofs.YtalahkincccffaaGreatDoor
