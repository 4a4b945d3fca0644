/-
  The law LexPlaces.
-/
import Derived.Test.YtonajmngchfjeaaGreatDoorLexW
import Derived.Test.YtonajmngchfjeaaGreatDoorLexX
namespace Go.Proofs.YtonajmngchfjeaaGreatDoor
open Go.RowKit Word Txt
open Lx (Tok)
attribute [local go_sem] setCell_drewN cell?_ext frozen?_ext shape?_ext setCell_ext lt_1' ne_1' en_1' le_1' lt_2' ne_2' en_2' le_2' lt_3' ne_3' en_3' le_3' lt_4' ne_4' en_4' le_4' lt_5' ne_5' en_5' le_5' lt_6' ne_6' en_6' le_6' lt_7' ne_7' en_7' le_7' lt_8' ne_8' en_8' le_8' lt_9' ne_9' en_9' le_9' lt_10' ne_10' en_10' le_10' lt_11' ne_11' en_11' le_11' lt_12' ne_12' en_12' le_12'

/-- a row of tokens of the call's own, whatever it holds -/
structure Own8 (W0 w : World) (g n : Nat) : Prop where
  own : W0.heap.size ≤ g
  lt : g < w.heap.size
  below : Below W0.heap.size W0 w
  cell : ∀ j, j < n * 8 → ∃ u, w.cell? ⟨g, j, none⟩ = some u
  free : ∀ j, j < n * 8 → w.frozen? ⟨g, j, none⟩ = false
theorem Own8.store {W0 w : World} {g n : Nat} (h : Own8 W0 w g n) (k : Nat) (v : Value) (hk : k < n * 8) : Own8 W0 (w.setCell ⟨g, k, none⟩ v) g n := by
  refine ⟨h.own, by rw [World.size_setCell]; exact h.lt, h.below.setCell (p := ⟨g, k, none⟩) h.own _, fun j hj => ?_, fun j hj => by rw [World.frozen?_setCell]; exact h.free j hj⟩
  obtain ⟨u, hu⟩ := h.cell j hj
  by_cases e : j = k
  · subst e
    exact ⟨v, World.cell?_setCell_same w _ _ hu⟩
  · exact ⟨u, by rw [World.cell?_setCell_other w _ _ _ (by intro e2; injection e2 with _ e3 _; exact e e3.symm), hu]⟩
theorem Own8.drew {W0 w : World} {g n : Nat} (h : Own8 W0 w g n) (d : Nat) : Own8 W0 (w.drewN d) g n := ⟨h.own, h.lt, below_drewN h.below d, h.cell, h.free⟩
theorem TB.own8 {v : Value} {ts : List Tok} {W0 w : World} (h : TB W0.heap.size v ts W0 w) : ∃ p c, v = .slice p ts.length c ∧ (0 < ts.length → ∃ g, p = some ⟨g, 0, none⟩ ∧ Own8 W0 w g ts.length) := by
  have h1 := h.1
  obtain ⟨h2, h3⟩ := h1
  rcases h3 with ⟨rfl, h0⟩ | ⟨g, cap, cur, rfl, hB, hh, hc, hm, hs, ht⟩
  · exact ⟨none, 0, by rw [h0], fun h9 => by omega⟩
  · refine ⟨_, cap, rfl, fun _ => ⟨g, rfl, hB, (h.1.lt g rfl).2, h.2.1, fun j hj => ?_, fun j hj => ?_⟩⟩
    · rw [h.1.cellAt j hj]
      exact ⟨_, List.getElem?_eq_getElem (by rw [h2]; exact hj)⟩
    · unfold World.frozen?
      simp only
      rw [hh]
      simp
theorem below_up {W0 w w' : World} (h : Below W0.heap.size W0 w) (hb : Below w.heap.size w w') : Below W0.heap.size W0 w' :=
  h.trans ⟨hb.os, hb.tape, hb.output, hb.size, fun k hk => hb.block k (Nat.lt_of_lt_of_le hk h.size)⟩
set_option maxRecDepth 100000 in
set_option maxHeartbeats 32000000 in
theorem lexPlaces_law (s : ByteArray) (hs : s.size ≤ maxLen) (w : World) (hT : Tabs w) (hL : Lens w) :
    Calls Tryz.prog 4 #[.string s] w fun e w' => e = .returned (.bool true) ∧ Below w.heap.size w w' := by
  obtain ⟨F, hF⟩ := fn_ok
  have HT := Lib.hid (fun w' (hb : Below w.heap.size w w') => hT.below hb)
  have HL := Lib.hid (fun w' (hb : Below w.heap.size w w') => hL.below hb)
  have HK := Lib.hid (lxknown_any hF.prog w hT hL)
  have hlen := lexOut_len F s
  have h1 := fun w' => rdocRead_any hF s w'
  have h2 := fun w' (h1 : Tabs w') (h2 : Lens w') => lexRead_any hF.prog s hs w' h1 h2
  have hG := lexOut_GT hF.prog s
  have hE := fun h => lexOut_err (F := F) s h
  obtain ⟨⟨ts, g⟩, ho⟩ : ∃ o, o = lexOut F s := ⟨_, rfl⟩
  rw [← ho] at h1 h2 hlen hG hE
  have H1 := Lib.hid (show ∀ w', Calls Tryz.prog 6 #[.string s] w' fun e w'' => ∃ v, e = .returned (.tuple #[v, .int .i64 g]) ∧ TB w'.heap.size v ts w' w'' from h1)
  have H2 := Lib.hid (show ∀ w', Tabs w' → Lens w' → Calls Tryz.prog 7 #[.string s] w' fun e w'' => ∃ v, e = .returned (.tuple #[v, .int .i64 g]) ∧ TB w'.heap.size v ts w' w'' from h2)
  have HLEN := Lib.hid (show ts.length ≤ 100000 by have : ts.length ≤ 1001 := hlen; omega)
  have HG := Lib.hid (show GTs ts s.size from hG)
  clear h1 h2 ho hF hT hL hlen hG
  by_cases hg : g = 0
  · subst hg
    have hn := HLEN.out
    obtain ⟨n, hnn⟩ : ∃ n, n = ts.length := ⟨_, rfl⟩
    have HN := Lib.hid hnn
    rw [← hnn] at hn
    clear hE hs
    go_enter Tryz.func4, Tryz.ntmps4
    go_wp2_with (first
      | (go_at_call 5; ((with_reducible refine (HK.out).mono ?_); rintro e w1 ⟨rfl, hb1⟩; obtain ⟨osA, dA, rfl⟩ := ext_of_below hb1; clear hb1))
      | (go_at_call 7; ((with_reducible refine (H2.out _ (HT.out _ (by (repeat' (first | (with_reducible exact Below.refl _ _) | (with_reducible assumption) | (with_reducible refine Below.alloc ?_ ?_ _) | (with_reducible refine below_drewN ?_ _) | (with_reducible refine below_drew ?_) | (with_reducible refine below_ext ?_ ?_ _ _) | (with_reducible refine Below.setCell ?_ ?_ _) | (simp; done) | (simp; omega) | omega)))) (HL.out _ (by (repeat' (first | (with_reducible exact Below.refl _ _) | (with_reducible assumption) | (with_reducible refine Below.alloc ?_ ?_ _) | (with_reducible refine below_drewN ?_ _) | (with_reducible refine below_drew ?_) | (with_reducible refine below_ext ?_ ?_ _ _) | (with_reducible refine Below.setCell ?_ ?_ _) | (simp; done) | (simp; omega) | omega))))).mono ?_); rintro e w1 ⟨v1, rfl, hb⟩; have hrow := hb.row; obtain ⟨p1, cp1, rfl, hc1⟩ := hb.row; rw [← hnn] at hrow; have HR1 := Lib.hid hrow; have HC1 := Lib.hid hc1; have HB1 := Lib.hid (below_up (W0 := w) (by (repeat' (first | (with_reducible exact Below.refl _ _) | (with_reducible assumption) | (with_reducible refine Below.alloc ?_ ?_ _) | (with_reducible refine below_drewN ?_ _) | (with_reducible refine below_drew ?_) | (with_reducible refine below_ext ?_ ?_ _ _) | (with_reducible refine Below.setCell ?_ ?_ _) | (simp; done) | (simp; omega) | omega))) hb.2.1); clear hb hc1 hrow)))
    rw [← hnn]
    clear hnn
    go_loopw [5, 6] (fun l z wr => ∃ i : Nat, z = .int .i64 i ∧ l = .int .i64 (lastZ ts i) ∧ i ≤ n ∧ Hid (Below w1.heap.size w1 wr)) (fun _ z _ => n - (intOf z).toNat)
    case atStart => exact ⟨0, rfl, rfl, Nat.zero_le _, Lib.hid (Below.refl _ _)⟩
    case round =>
      obtain ⟨k, rfl, rfl, hk, hbw⟩ := hrel
      by_cases hlt : k < n
      · have hk9 : k < ts.length := by rw [← HN.out]; exact hlt
        obtain ⟨g1, rfl, hg1, hc⟩ := HC1.out (by omega)
        have hc2 := fun j hj => ((bcell hbw.out).1 g1 (k * 8 + j) hg1).trans (hc k hk9 j hj)
        have hgt := (HG.out.1 ts[k] (List.getElem_mem hk9))
        have hl1 := lastZ_lt HG.out k hk9
        have hl2 := lastZ_succ (ts := ts) k hk9
        obtain ⟨t, ht⟩ : ∃ t, t = ts[k] := ⟨_, rfl⟩
        rw [← ht] at hc2 hgt hl1 hl2
        obtain ⟨⟨hk1, hk4, hk5⟩, hat⟩ := hgt
        obtain ⟨lz, hlz⟩ : ∃ lz, lz = lastZ ts k := ⟨_, rfl⟩
        rw [← hlz] at hl1 ⊢
        obtain ⟨az, haz⟩ : ∃ az : Int, az = (t.at_ : Int) := ⟨_, rfl⟩
        rw [← haz] at hl1 hl2
        have haz2 : az < (s.size : Int) := by omega
        obtain ⟨tx, htx⟩ : ∃ tx : ByteArray, tx = ⟨t.text.toArray⟩ := ⟨_, rfl⟩
        rw [← htx] at hk4 hk5
        obtain ⟨x, hx⟩ : ∃ x : Int, x = ((hi t.c : Nat) : Int) := ⟨_, rfl⟩
        obtain ⟨y, hy⟩ : ∃ y : Int, y = ((lo t.c : Nat) : Int) := ⟨_, rfl⟩
        obtain ⟨ng, hng⟩ : ∃ x, x = t.neg := ⟨_, rfl⟩
        obtain ⟨sc, hsc⟩ : ∃ x, x = t.s := ⟨_, rfl⟩
        obtain ⟨dy, hdy⟩ : ∃ x, x = t.day := ⟨_, rfl⟩
        obtain ⟨kd, hkd⟩ : ∃ x, x = t.kind := ⟨_, rfl⟩
        rw [← hkd] at hk1 hk4 hk5
        have e : tkC t = [.int .i64 kd, .string tx, .bool ng, .int .u64 x, .int .u64 y, .int .i64 sc, .int .i64 dy, .int .i64 az] := by rw [hkd, htx, hng, hx, hy, hsc, hdy, haz]; rfl
        simp only [e] at hc2
        have a0 := hc2 0 (by decide); have a1 := hc2 1 (by decide); have a2 := hc2 2 (by decide); have a3 := hc2 3 (by decide); have a4 := hc2 4 (by decide); have a5 := hc2 5 (by decide); have a6 := hc2 6 (by decide); have a7 := hc2 7 (by decide)
        simp only [List.getElem_cons_zero, List.getElem_cons_succ, Nat.add_zero] at a0 a1 a2 a3 a4 a5 a6 a7
        have hl1' : ¬ az ≤ lz := by omega
        have HL2 := Lib.hid hl2
        have HLZ := Lib.hid hlz
        have HBW := Lib.hid (fun wr' (h : Below wr.heap.size wr wr') => below_up hbw.out h)
        clear hc hc2 e ht hk9 htx hx hy hng hsc hdy hkd haz hat hl1 hl2 hlz
        rcases hk1 with rfl | rfl | rfl | rfl | rfl | rfl
        case inr.inr.inr.inl =>
          have HNM := Lib.hid (rname_yes tx (hk4 rfl))
          clear hk4 hk5
          go_wp2_with (go_at_call 9; ((with_reducible refine (HNM.out _).mono ?_); rintro e w' ⟨rfl, rfl⟩))
          go_roundw
          case rel => exact ⟨k + 1, by go_num, by rw [HL2.out], by omega, Lib.hid (HBW.out _ (by (repeat' (first | (with_reducible exact Below.refl _ _) | (with_reducible assumption) | (with_reducible refine Below.alloc ?_ ?_ _) | (with_reducible refine below_drewN ?_ _) | (with_reducible refine below_drew ?_) | (with_reducible refine below_ext ?_ ?_ _ _) | (with_reducible refine Below.setCell ?_ ?_ _) | (simp; done) | (simp; omega) | omega))))⟩
          case measure => simp [intOf]; omega
        case inr.inr.inr.inr.inl =>
          have hwd := rword_any tx
          rw [hk5 rfl] at hwd
          have HWD := Lib.hid hwd
          clear hk4 hk5 hwd
          go_wp2_with (go_at_call 10; ((with_reducible refine (HWD.out _).mono ?_); rintro e w' ⟨rfl, rfl⟩))
          go_roundw
          case rel => exact ⟨k + 1, by go_num, by rw [HL2.out], by omega, Lib.hid (HBW.out _ (by (repeat' (first | (with_reducible exact Below.refl _ _) | (with_reducible assumption) | (with_reducible refine Below.alloc ?_ ?_ _) | (with_reducible refine below_drewN ?_ _) | (with_reducible refine below_drew ?_) | (with_reducible refine below_ext ?_ ?_ _ _) | (with_reducible refine Below.setCell ?_ ?_ _) | (simp; done) | (simp; omega) | omega))))⟩
          case measure => simp [intOf]; omega
        all_goals
          clear hk4 hk5
          go_wp2
          go_roundw
          case rel => exact ⟨k + 1, by go_num, by rw [HL2.out], by omega, Lib.hid (HBW.out _ (by (repeat' (first | (with_reducible exact Below.refl _ _) | (with_reducible assumption) | (with_reducible refine Below.alloc ?_ ?_ _) | (with_reducible refine below_drewN ?_ _) | (with_reducible refine below_drew ?_) | (with_reducible refine below_ext ?_ ?_ _ _) | (with_reducible refine Below.setCell ?_ ?_ _) | (simp; done) | (simp; omega) | omega))))⟩
          case measure => simp [intOf]; omega
      · have HBr := Lib.hid (below_up HB1.out hbw.out)
        have HR2 := Lib.hid (HR1.out.later hbw.out)
        clear hbw
        go_wp2_with (go_at_call 7; ((with_reducible refine (H2.out _ (HT.out _ HBr.out) (HL.out _ HBr.out)).mono ?_); rintro e w2 ⟨v2, rfl, hb⟩; obtain ⟨p2, cp2, rfl, ho2⟩ := hb.own8; have HO2 := Lib.hid ho2; have HB2 := Lib.hid hb.2.1; clear hb ho2))
        rw [← HN.out]
        rw [← HN.out] at HO2
        go_loopw [10] (fun z wq => ∃ i : Nat, z = .int .i64 i ∧ i ≤ n ∧ Hid (Below wr.heap.size wr wq) ∧ Hid (0 < n → ∃ g, p2 = some ⟨g, 0, none⟩ ∧ Own8 wr wq g n)) (fun z _ => n - (intOf z).toNat)
        case atStart => exact ⟨0, rfl, Nat.zero_le _, HB2, HO2⟩
        case round =>
          obtain ⟨q, rfl, hq, hb3, ho3⟩ := hrel
          by_cases hqlt : q < n
          · obtain ⟨g2, rfl, ho⟩ := ho3.out (by omega)
            have HO := Lib.hid ho
            obtain ⟨x0, y0⟩ := ho.cell (q * 8 + 0) (by omega)
            obtain ⟨x1, y1⟩ := ho.cell (q * 8 + 1) (by omega)
            obtain ⟨x2, y2⟩ := ho.cell (q * 8 + 2) (by omega)
            obtain ⟨x3, y3⟩ := ho.cell (q * 8 + 3) (by omega)
            obtain ⟨x4, y4⟩ := ho.cell (q * 8 + 4) (by omega)
            obtain ⟨x5, y5⟩ := ho.cell (q * 8 + 5) (by omega)
            obtain ⟨x6, y6⟩ := ho.cell (q * 8 + 6) (by omega)
            obtain ⟨x7, y7⟩ := ho.cell (q * 8 + 7) (by omega)
            have z0 := ho.free (q * 8 + 0) (by omega); have z1 := ho.free (q * 8 + 1) (by omega); have z2 := ho.free (q * 8 + 2) (by omega); have z3 := ho.free (q * 8 + 3) (by omega)
            have z4 := ho.free (q * 8 + 4) (by omega); have z5 := ho.free (q * 8 + 5) (by omega); have z6 := ho.free (q * 8 + 6) (by omega); have z7 := ho.free (q * 8 + 7) (by omega)
            simp only [Nat.add_zero] at y0 z0
            have HST := Lib.hid ((((((((HO.out.store (q * 8) (.int .i64 99) (by omega)).store (q * 8 + 1) (.string { data := #[] }) (by omega)).store (q * 8 + 2) (.bool false) (by omega)).store (q * 8 + 3) (.int .u64 0) (by omega)).store (q * 8 + 4) (.int .u64 0) (by omega)).store (q * 8 + 5) (.int .i64 0) (by omega)).store (q * 8 + 6) (.int .i64 0) (by omega)).store (q * 8 + 7) (.int .i64 0) (by omega))
            clear ho ho3 hb3
            go_wp2
            go_roundw
            case rel => exact ⟨q + 1, by go_num, by omega, Lib.hid HST.out.below, Lib.hid fun _ => ⟨g2, rfl, HST.out⟩⟩
            case measure => simp [intOf]; omega
          · have HBq := Lib.hid (below_up HBr.out hb3.out)
            have HR3 := Lib.hid (HR2.out.later hb3.out)
            clear hb3 ho3
            go_wp2_with (first
              | (go_at_call 6; ((with_reducible refine (H1.out _).mono ?_); rintro e w3 ⟨v3, rfl, hb⟩; have HR4 := Lib.hid hb.row; have HB4 := Lib.hid (below_up HBq.out hb.2.1); have HR5 := Lib.hid (HR3.out.later hb.2.1); clear hb))
              | (go_at_call 8; ((with_reducible refine (rtokSame_any _ _ ts HLEN.out _ HR5.out HR4.out).mono ?_); rintro e w4 ⟨rfl, hb4⟩; have HB5 := Lib.hid (below_up HB4.out hb4); clear hb4)))
            go_ret
            exact ⟨rfl, HB5.out⟩
  · have hnil : ts = [] := hE hg
    subst hnil
    have hg1 : (g == 0) = false := by simpa using hg
    have hg2 : (g != 0) = true := by simpa using hg
    clear hE hg hs
    go_enter Tryz.func4, Tryz.ntmps4
    go_wp2_with (first
      | (go_at_call 5; ((with_reducible refine (HK.out).mono ?_); rintro e w1 ⟨rfl, hb1⟩; obtain ⟨osA, dA, rfl⟩ := ext_of_below hb1; clear hb1))
      | (go_at_call 7; ((with_reducible refine (H2.out _ (HT.out _ (by (repeat' (first | (with_reducible exact Below.refl _ _) | (with_reducible assumption) | (with_reducible refine Below.alloc ?_ ?_ _) | (with_reducible refine below_drewN ?_ _) | (with_reducible refine below_drew ?_) | (with_reducible refine below_ext ?_ ?_ _ _) | (with_reducible refine Below.setCell ?_ ?_ _) | (simp; done) | (simp; omega) | omega)))) (HL.out _ (by (repeat' (first | (with_reducible exact Below.refl _ _) | (with_reducible assumption) | (with_reducible refine Below.alloc ?_ ?_ _) | (with_reducible refine below_drewN ?_ _) | (with_reducible refine below_drew ?_) | (with_reducible refine below_ext ?_ ?_ _ _) | (with_reducible refine Below.setCell ?_ ?_ _) | (simp; done) | (simp; omega) | omega))))).mono ?_); rintro e w1 ⟨v1, rfl, hb⟩; obtain ⟨p, c, rfl, -⟩ := hb.row; obtain ⟨os1, d1, rfl⟩ := ext_of_below hb.2.1; clear hb)))
    go_ret
    exact ⟨rfl, by (repeat' (first | (with_reducible exact Below.refl _ _) | (with_reducible assumption) | (with_reducible refine Below.alloc ?_ ?_ _) | (with_reducible refine below_drewN ?_ _) | (with_reducible refine below_drew ?_) | (with_reducible refine below_ext ?_ ?_ _ _) | (with_reducible refine Below.setCell ?_ ?_ _) | (simp; done) | (simp; omega) | omega))⟩
theorem lexPlaces_lawL (s : ByteArray) (hs : s.size ≤ 140737488351232) (w : World) (h : Tabs w ∧ Lens w) :
    Calls Tryz.prog 4 #[.string s] w fun e w' => e = .returned (.bool true) ∧ Below w.heap.size w w' := lexPlaces_law s (by unfold maxLen; omega) w h.1 h.2
end Go.Proofs.YtonajmngchfjeaaGreatDoor
