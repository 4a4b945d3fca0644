/-
  The law LexJoins.
-/
import Derived.Test.YtonajmngchfjeaaDoorLexW
import Derived.Test.YtonajmngchfjeaaDoorBo
namespace Go.Proofs.YtonajmngchfjeaaDoor
open Go.RowKit Word Txt
open Lx (Tok)
attribute [local go_sem] setCell_drewN cell?_ext frozen?_ext shape?_ext setCell_ext lt_1' ne_1' en_1' le_1' lt_2' ne_2' en_2' le_2' lt_3' ne_3' en_3' le_3' lt_4' ne_4' en_4' le_4' lt_5' ne_5' en_5' le_5' lt_6' ne_6' en_6' le_6' lt_7' ne_7' en_7' le_7' lt_8' ne_8' en_8' le_8' lt_9' ne_9' en_9' le_9' lt_10' ne_10' en_10' le_10' lt_11' ne_11' en_11' le_11' lt_12' ne_12' en_12' le_12'

def padL : List UInt8 := [32, 9, 10, 13]
theorem padL_bl (k : Nat) : ∀ c ∈ padL.take k, Lx.bl c = true := by
  intro c hc
  have h := List.mem_of_mem_take hc
  simp only [padL, List.mem_cons, List.not_mem_nil, or_false] at h
  rcases h with rfl | rfl | rfl | rfl <;> decide
theorem wrap_rem5 (b : Int) : wrap64 ((IntKind.u64.wrap b).tmod 5) ≤ 4 := by
  have h0 : 0 ≤ IntKind.u64.wrap b := Int.emod_nonneg _ (by decide)
  rw [Int.tmod_eq_emod_of_nonneg h0]
  unfold wrap64
  omega
theorem bel_up {W0 w w' : World} (h : Below W0.heap.size W0 w) (hb : Below w.heap.size w w') : Below W0.heap.size W0 w' :=
  h.trans ⟨hb.os, hb.tape, hb.output, hb.size, fun k hk => hb.block k (Nat.lt_of_lt_of_le hk h.size)⟩
theorem joined_list (pb s t : ByteArray) : (pb ++ s ++ { data := #[32] } ++ t ++ pb).data.toList = pb.data.toList ++ (s.data.toList ++ 32 :: (t.data.toList ++ pb.data.toList)) := by
  simp [ByteArray.data_append]
theorem joined_size (pb s t : ByteArray) : (pb ++ s ++ { data := #[32] } ++ t ++ pb).size = pb.size + s.size + 1 + t.size + pb.size := by
  simp [ByteArray.size_append]; rfl
theorem TRow.cells {w : World} {p : Option Addr} {n c : Nat} {ts : List Tok} (h : TRow w (.slice p n c) ts) (h0 : 0 < ts.length) : ∃ g, p = some ⟨g, 0, none⟩ ∧ g < w.heap.size ∧ ∀ i (h : i < ts.length) j (hj : j < 8), w.cell? ⟨g, i * 8 + j, none⟩ = some ((tkC ts[i])[j]'hj) := by
  obtain ⟨p', c', e, h1⟩ := h
  injection e with e1 e2 e3
  subst e1
  exact h1 h0
theorem tkC_shift (t : Tok) (d : Nat) : ∃ (kd : Int) (tx : ByteArray) (ng : Bool) (x y sc dy : Int), tkC t = [.int .i64 kd, .string tx, .bool ng, .int .u64 x, .int .u64 y, .int .i64 sc, .int .i64 dy, .int .i64 (t.at_ : Int)] ∧
    tkC { t with at_ := t.at_ + d } = [.int .i64 kd, .string tx, .bool ng, .int .u64 x, .int .u64 y, .int .i64 sc, .int .i64 dy, .int .i64 ((t.at_ : Int) + (d : Int))] := ⟨_, _, _, _, _, _, _, rfl, rfl⟩
set_option maxRecDepth 100000 in
set_option maxHeartbeats 32000000 in
theorem lexJoins_law (s t : ByteArray) (bz : Int) (hs : s.size ≤ maxLen) (ht : t.size ≤ maxLen) (w : World) (hT : Tabs w) (hL : Lens w) :
    Calls Tryd.prog 3 #[.string s, .string t, .int .i64 bz] w fun e w' => e = .returned (.bool true) ∧ Below w.heap.size w w' := by
  obtain ⟨F, hF⟩ := fop_ok
  have HT := Lib.hid (fun w' (hb : Below w.heap.size w w') => hT.below hb)
  have HL := Lib.hid (fun w' (hb : Below w.heap.size w w') => hL.below hb)
  have HK := Lib.hid (lxknown_any hF w hT hL)
  by_cases h1 : s.size ≤ 400
  · by_cases h2 : t.size ≤ 400
    · have g1 : (s.size : Int) ≤ 400 := by omega
      have g2 : (t.size : Int) ≤ 400 := by omega
      have HF := Lib.hid hF
      obtain ⟨M, hM⟩ : ∃ M, wrap64 ((IntKind.u64.wrap bz).tmod 5) = M := ⟨_, rfl⟩
      have hM4 := wrap_rem5 bz
      rw [hM] at hM4
      have HO1 := Lib.hid (fun w' (h1 : Tabs w') (h2 : Lens w') => lexRead_any hF s hs w' h1 h2)
      have HO2 := Lib.hid (fun w' (h1 : Tabs w') (h2 : Lens w') => lexRead_any hF t ht w' h1 h2)
      clear hF hT hL hs ht
      go_enter Tryd.func3, Tryd.ntmps3
      go_wp2_with ((go_at_call 4; ((with_reducible refine (HK.out).mono ?_); rintro e w1 ⟨rfl, hb1⟩; obtain ⟨osA, dA, rfl⟩ := ext_of_below hb1; clear hb1)))
      go_loopw [7, 8] (fun p i wr => ∃ k : Nat, i = .int .i64 k ∧ p = .string ⟨(padL.take k).toArray⟩ ∧ k ≤ 4 ∧ ∃ dr, wr = (ext w osA dA).drewN dr) (fun _ i _ => 5 - (intOf i).toNat)
      case atStart => exact ⟨0, rfl, rfl, by omega, 0, rfl⟩
      case round =>
        obtain ⟨k, rfl, rfl, hk, dr, rfl⟩ := hrel
        by_cases hkM : (k : Int) < M
        · have hk3 : k < 4 := by omega
          have hw0 : IntKind.i64.wrap ((k : Int) + 1) = (k : Int) + 1 := IntWalk.i64_in _ (by omega)
          have hadd : ({ data := (padL.take k).toArray } : ByteArray) ++ ({ data := #[32, 9, 10, 13] } : ByteArray).extract (k % 4) (k % 4 + 1) = { data := (padL.take (k + 1)).toArray } := by
            rcases (show k = 0 ∨ k = 1 ∨ k = 2 ∨ k = 3 by omega) with rfl | rfl | rfl | rfl <;> rfl
          have HADD := Lib.hid hadd
          clear hadd
          go_wp2
          go_roundw
          case rel => exact ⟨k + 1, by go_num, by rw [HADD.out], by omega, _, rfl⟩
          case measure => simp [intOf]; omega
        · obtain ⟨P, hP⟩ : ∃ P, P = padL.take k := ⟨_, rfl⟩
          have HPB := Lib.hid (show ∀ c ∈ P, Lx.bl c = true from by rw [hP]; exact padL_bl k)
          have hPl : P.length ≤ 4 := by rw [hP, List.length_take]; show min k 4 ≤ 4; omega
          rw [← hP]
          obtain ⟨pb, hpb⟩ : ∃ pb : ByteArray, pb = ⟨P.toArray⟩ := ⟨_, rfl⟩
          rw [← hpb]
          have hpz : pb.size = P.length := by rw [hpb, bsz]
          obtain ⟨X, hX⟩ : ∃ X : ByteArray, pb ++ s ++ { data := #[32] } ++ t ++ pb = X := ⟨_, rfl⟩
          have hXl := joined_list pb s t
          have hXz := joined_size pb s t
          rw [hX] at hXl hXz
          have HO3 := Lib.hid (fun w' (h1 : Tabs w') (h2 : Lens w') => lexRead_any HF.out X (by unfold maxLen; omega) w' h1 h2)
          obtain ⟨⟨ts1, e1⟩, ho1⟩ : ∃ o, o = lexOut F s := ⟨_, rfl⟩
          obtain ⟨⟨ts2, e2⟩, ho2⟩ : ∃ o, o = lexOut F t := ⟨_, rfl⟩
          obtain ⟨⟨ts3, e3⟩, ho3⟩ : ∃ o, o = lexOut F X := ⟨_, rfl⟩
          have HJ := Lib.hid (fun (a : lexOut F s = (ts1, 0)) (b : lexOut F t = (ts2, 0)) => lexOut_join P s t X HPB.out hPl h1 h2 (by rw [hXl, hpb]) ts1 ts2 a b)
          have hg1 := lexOut_GT HF.out s
          have hg2 := lexOut_GT HF.out t
          have hl1 := lexOut_len F s
          have hl2 := lexOut_len F t
          rw [← ho1] at HO1 HJ hg1 hl1
          rw [← ho2] at HO2 HJ hg2 hl2
          rw [← ho3] at HO3 HJ
          have H1 := Lib.hid (show ∀ w', Tabs w' → Lens w' → Calls Tryd.prog 5 #[.string s] w' fun e w'' => ∃ v, e = .returned (.tuple #[v, .int .i64 e1]) ∧ TB w'.heap.size v ts1 w' w'' from HO1.out)
          have H2 := Lib.hid (show ∀ w', Tabs w' → Lens w' → Calls Tryd.prog 5 #[.string t] w' fun e w'' => ∃ v, e = .returned (.tuple #[v, .int .i64 e2]) ∧ TB w'.heap.size v ts2 w' w'' from HO2.out)
          have H3 := Lib.hid (show ∀ w', Tabs w' → Lens w' → Calls Tryd.prog 5 #[.string X] w' fun e w'' => ∃ v, e = .returned (.tuple #[v, .int .i64 e3]) ∧ TB w'.heap.size v ts3 w' w'' from HO3.out)
          have HG1 := Lib.hid (show GTs ts1 s.size from hg1)
          have HG2 := Lib.hid (show GTs ts2 t.size from hg2)
          have hll1 : ts1.length ≤ 1001 := hl1
          have hll2 : ts2.length ≤ 1001 := hl2
          have hpz4 : (pb.size : Int) ≤ 4 := by omega
          clear ho1 ho2 ho3 hg1 hg2 hl1 hl2 HO1 HO2 HO3 hP hpb hXl hXz
          by_cases he1 : e1 = 0
          · by_cases he2 : e2 = 0
            · subst he1; subst he2
              have hj := HJ.out rfl rfl
              obtain ⟨rfl, rfl⟩ : ts3 = Lx.shift P.length ts1 ++ Lx.shift (P.length + s.size + 1) ts2 ∧ e3 = 0 := ⟨congrArg Prod.fst hj, congrArg Prod.snd hj⟩
              obtain ⟨n1, hn1⟩ : ∃ n, ts1.length = n := ⟨_, rfl⟩
              obtain ⟨n2, hn2⟩ : ∃ n, ts2.length = n := ⟨_, rfl⟩
              have hl3 : (Lx.shift P.length ts1 ++ Lx.shift (P.length + s.size + 1) ts2).length = n1 + n2 := by
                rw [List.length_append, ← hn1, ← hn2]; simp [Lx.shift]
              obtain ⟨ts3, hts3⟩ : ∃ ts3, ts3 = Lx.shift P.length ts1 ++ Lx.shift (P.length + s.size + 1) ts2 := ⟨_, rfl⟩
              rw [← hts3] at H3 hl3
              obtain ⟨n3, hn3⟩ : ∃ n, ts3.length = n := ⟨_, rfl⟩
              have hsum : (n1 : Int) + (n2 : Int) = (n3 : Int) := by omega
              have hwsum : IntKind.i64.wrap ((n3 : Int)) = (n3 : Int) := IntWalk.i64_in _ (by omega)
              have hn3b : n3 ≤ 2002 := by omega
              have hn3n : n3 = n1 + n2 := by omega
              have HTS := Lib.hid hts3
              have HN3 := Lib.hid hn3n
              clear hj HJ hts3 hn3n hl3
              go_wp2_with (first
                | (go_at_call 5; ((with_reducible refine (H1.out _ (HT.out _ (by (repeat' (first | (with_reducible exact Below.refl _ _) | (with_reducible assumption) | (with_reducible refine Below.alloc ?_ ?_ _) | (with_reducible refine below_drewN ?_ _) | (with_reducible refine below_drew ?_) | (with_reducible refine below_ext ?_ ?_ _ _) | (with_reducible refine Below.setCell ?_ ?_ _) | (simp; done) | (simp; omega) | omega)))) (HL.out _ (by (repeat' (first | (with_reducible exact Below.refl _ _) | (with_reducible assumption) | (with_reducible refine Below.alloc ?_ ?_ _) | (with_reducible refine below_drewN ?_ _) | (with_reducible refine below_drew ?_) | (with_reducible refine below_ext ?_ ?_ _ _) | (with_reducible refine Below.setCell ?_ ?_ _) | (simp; done) | (simp; omega) | omega))))).mono ?_); rintro e w1 ⟨v1, rfl, hb⟩; have hrow1 := hb.row; obtain ⟨p1, c1, rfl, -⟩ := hb.row; rw [hn1] at hrow1; have HRW1 := Lib.hid hrow1; clear hrow1; obtain ⟨os1, d1, rfl⟩ := ext_of_below hb.2.1; clear hb))
                | (go_at_call 5; ((with_reducible refine (H2.out _ (HT.out _ (by (repeat' (first | (with_reducible exact Below.refl _ _) | (with_reducible assumption) | (with_reducible refine Below.alloc ?_ ?_ _) | (with_reducible refine below_drewN ?_ _) | (with_reducible refine below_drew ?_) | (with_reducible refine below_ext ?_ ?_ _ _) | (with_reducible refine Below.setCell ?_ ?_ _) | (simp; done) | (simp; omega) | omega)))) (HL.out _ (by (repeat' (first | (with_reducible exact Below.refl _ _) | (with_reducible assumption) | (with_reducible refine Below.alloc ?_ ?_ _) | (with_reducible refine below_drewN ?_ _) | (with_reducible refine below_drew ?_) | (with_reducible refine below_ext ?_ ?_ _ _) | (with_reducible refine Below.setCell ?_ ?_ _) | (simp; done) | (simp; omega) | omega))))).mono ?_); rintro e w1 ⟨v2, rfl, hb⟩; have hrow2 := hb.row; obtain ⟨p2, c2, rfl, -⟩ := hb.row; rw [hn2] at hrow2; have HRW2 := Lib.hid hrow2; clear hrow2; obtain ⟨os2, d2, rfl⟩ := ext_of_below hb.2.1; clear hb))
                | (go_at_call 5; ((with_reducible refine (H3.out _ (HT.out _ (by (repeat' (first | (with_reducible exact Below.refl _ _) | (with_reducible assumption) | (with_reducible refine Below.alloc ?_ ?_ _) | (with_reducible refine below_drewN ?_ _) | (with_reducible refine below_drew ?_) | (with_reducible refine below_ext ?_ ?_ _ _) | (with_reducible refine Below.setCell ?_ ?_ _) | (simp; done) | (simp; omega) | omega)))) (HL.out _ (by (repeat' (first | (with_reducible exact Below.refl _ _) | (with_reducible assumption) | (with_reducible refine Below.alloc ?_ ?_ _) | (with_reducible refine below_drewN ?_ _) | (with_reducible refine below_drew ?_) | (with_reducible refine below_ext ?_ ?_ _ _) | (with_reducible refine Below.setCell ?_ ?_ _) | (simp; done) | (simp; omega) | omega))))).mono ?_); rintro e w1 ⟨v3, rfl, hb⟩; have hrow3 := hb.row; obtain ⟨p3, c3, rfl, -⟩ := hb.row; rw [hn3] at hrow3; have HRW3 := Lib.hid hrow3; clear hrow3; obtain ⟨os3, d3, rfl⟩ := ext_of_below hb.2.1; clear hb)))
              have HA1 := Lib.hid (HRW1.out.later (w' := ext (ext (ext ((ext w osA dA).drewN dr) os1 d1) os2 d2) os3 d3) (by (repeat' (first | (with_reducible exact Below.refl _ _) | (with_reducible assumption) | (with_reducible refine Below.alloc ?_ ?_ _) | (with_reducible refine below_drewN ?_ _) | (with_reducible refine below_drew ?_) | (with_reducible refine below_ext ?_ ?_ _ _) | (with_reducible refine Below.setCell ?_ ?_ _) | (simp; done) | (simp; omega) | omega))))
              have HA2 := Lib.hid (HRW2.out.later (w' := ext (ext (ext ((ext w osA dA).drewN dr) os1 d1) os2 d2) os3 d3) (by (repeat' (first | (with_reducible exact Below.refl _ _) | (with_reducible assumption) | (with_reducible refine Below.alloc ?_ ?_ _) | (with_reducible refine below_drewN ?_ _) | (with_reducible refine below_drew ?_) | (with_reducible refine below_ext ?_ ?_ _ _) | (with_reducible refine Below.setCell ?_ ?_ _) | (simp; done) | (simp; omega) | omega))))
              have HBW := Lib.hid (show Below w.heap.size w (ext (ext (ext ((ext w osA dA).drewN dr) os1 d1) os2 d2) os3 d3) by (repeat' (first | (with_reducible exact Below.refl _ _) | (with_reducible assumption) | (with_reducible refine Below.alloc ?_ ?_ _) | (with_reducible refine below_drewN ?_ _) | (with_reducible refine below_drew ?_) | (with_reducible refine below_ext ?_ ?_ _ _) | (with_reducible refine Below.setCell ?_ ?_ _) | (simp; done) | (simp; omega) | omega)))
              obtain ⟨W3, hW3⟩ : ∃ W3, ext (ext (ext ((ext w osA dA).drewN dr) os1 d1) os2 d2) os3 d3 = W3 := ⟨_, rfl⟩
              rw [hW3] at HA1 HA2 HBW HRW3 ⊢
              clear hW3 HRW1 HRW2
              go_loopw [15] (fun z wr => ∃ i : Nat, z = .int .i64 i ∧ i ≤ n3 ∧ Hid (Below W3.heap.size W3 wr)) (fun z _ => n3 - (intOf z).toNat)
              case atStart => exact ⟨0, rfl, Nat.zero_le _, Lib.hid (Below.refl _ _)⟩
              case round =>
                obtain ⟨i, rfl, hi3, hbw⟩ := hrel
                by_cases hlt : i < n3
                · obtain ⟨g3, rfl, hg3, hc3⟩ := HRW3.out.cells (by omega)
                  have hi9 : i < ts3.length := by omega
                  have hc3' := fun j hj => ((bcell hbw.out).1 g3 (i * 8 + j) hg3).trans (hc3 i hi9 j hj)
                  have HBR := Lib.hid (fun wr' (h : Below wr.heap.size wr wr') => bel_up hbw.out h)
                  by_cases hi1 : i < n1
                  · obtain ⟨g1, rfl, hg1, hc1⟩ := HA1.out.cells (by omega)
                    have hi8 : i < ts1.length := by omega
                    have hc1' := fun j hj => ((bcell hbw.out).1 g1 (i * 8 + j) hg1).trans (hc1 i hi8 j hj)
                    have hat := (HG1.out.1 ts1[i] (List.getElem_mem hi8)).2
                    have e3 : ts3[i] = { ts1[i] with at_ := ts1[i].at_ + P.length } := by
                      have := HTS.out
                      subst this
                      rw [List.getElem_append_left (by simp [Lx.shift]; omega)]
                      simp [Lx.shift]
                    obtain ⟨u3, hu3⟩ : ∃ u3, u3 = ts3[i] := ⟨_, rfl⟩
                    rw [← hu3] at hc3' e3
                    clear hu3
                    subst e3
                    obtain ⟨u, hu⟩ : ∃ u, u = ts1[i] := ⟨_, rfl⟩
                    rw [← hu] at hc1' hc3' hat
                    obtain ⟨kd, tx, ng, x, y, sc, dy, eA, eB⟩ := tkC_shift u P.length
                    simp only [eA] at hc1'
                    simp only [eB] at hc3'
                    obtain ⟨az, haz⟩ : ∃ az : Int, az = (u.at_ : Int) := ⟨_, rfl⟩
                    obtain ⟨a3, ha3⟩ : ∃ a3 : Int, az + (P.length : Int) = a3 := ⟨_, rfl⟩
                    have hwa : IntKind.i64.wrap a3 = a3 := IntWalk.i64_in _ (by omega)
                    have hwb : wrap64 a3 = a3 := by unfold wrap64; omega
                    have a0 := hc1' 0 (by decide); have a1 := hc1' 1 (by decide); have a2 := hc1' 2 (by decide); have a3' := hc1' 3 (by decide); have a4 := hc1' 4 (by decide); have a5 := hc1' 5 (by decide); have a6 := hc1' 6 (by decide); have a7 := hc1' 7 (by decide)
                    have b0 := hc3' 0 (by decide); have b1 := hc3' 1 (by decide); have b2 := hc3' 2 (by decide); have b3 := hc3' 3 (by decide); have b4 := hc3' 4 (by decide); have b5 := hc3' 5 (by decide); have b6 := hc3' 6 (by decide); have b7 := hc3' 7 (by decide)
                    simp only [List.getElem_cons_zero, List.getElem_cons_succ, Nat.add_zero] at a0 a1 a2 a3' a4 a5 a6 a7 b0 b1 b2 b3 b4 b5 b6 b7
                    rw [← haz] at a7
                    rw [← haz, show az + (P.length : Int) = a3 by omega] at b7
                    have hsm := tok_same9 kd tx ng x y sc dy a3
                    have hg1r : g1 < wr.heap.size := Nat.lt_of_lt_of_le hg1 hbw.out.size
                    have hg3r : g3 < wr.heap.size := Nat.lt_of_lt_of_le hg3 hbw.out.size
                    clear hc1 hc1' hc3 hc3' eA eB hu hi8 hi9 hat haz hbw
                    go_wp2
                    go_region
                    all_goals
                      go_wp2
                      go_roundw
                      case rel => exact ⟨i + 1, by go_num, by omega, Lib.hid (HBR.out _ (by (repeat' (first | (with_reducible exact Below.refl _ _) | (with_reducible assumption) | (with_reducible refine Below.alloc ?_ ?_ _) | (with_reducible refine below_drewN ?_ _) | (with_reducible refine below_drew ?_) | (with_reducible refine below_ext ?_ ?_ _ _) | (with_reducible refine Below.setCell ?_ ?_ _) | (simp; done) | (simp; omega) | omega))))⟩
                      case measure => simp [intOf]; omega
                  · obtain ⟨j, hj⟩ : ∃ j, j = i - n1 := ⟨_, rfl⟩
                    have hj2 : j < n2 := by have := HN3.out; omega
                    obtain ⟨g1, rfl, hg1, hc1⟩ := HA2.out.cells (by omega)
                    have hi8 : j < ts2.length := by omega
                    have hc1' := fun q hq => ((bcell hbw.out).1 g1 (j * 8 + q) hg1).trans (hc1 j hi8 q hq)
                    have hat := (HG2.out.1 ts2[j] (List.getElem_mem hi8)).2
                    have e3 : ts3[i] = { ts2[j] with at_ := ts2[j].at_ + (P.length + s.size + 1) } := by
                      have := HTS.out
                      subst this
                      rw [List.getElem_append_right (by simp [Lx.shift]; omega)]
                      simp [Lx.shift, hn1, ← hj]
                    obtain ⟨u3, hu3⟩ : ∃ u3, u3 = ts3[i] := ⟨_, rfl⟩
                    rw [← hu3] at hc3' e3
                    clear hu3
                    subst e3
                    obtain ⟨u, hu⟩ : ∃ u, u = ts2[j] := ⟨_, rfl⟩
                    rw [← hu] at hc1' hc3' hat
                    obtain ⟨kd, tx, ng, x, y, sc, dy, eA, eB⟩ := tkC_shift u (P.length + s.size + 1)
                    simp only [eA] at hc1'
                    simp only [eB] at hc3'
                    obtain ⟨az, haz⟩ : ∃ az : Int, az = (u.at_ : Int) := ⟨_, rfl⟩
                    obtain ⟨q1, hq1⟩ : ∃ a3 : Int, az + (P.length : Int) = a3 := ⟨_, rfl⟩
                    obtain ⟨q2, hq2⟩ : ∃ a3 : Int, q1 + (s.size : Int) = a3 := ⟨_, rfl⟩
                    obtain ⟨a3, ha3⟩ : ∃ a3 : Int, q2 + 1 = a3 := ⟨_, rfl⟩
                    have hwa : IntKind.i64.wrap a3 = a3 := IntWalk.i64_in _ (by omega)
                    have hwb : wrap64 a3 = a3 := by unfold wrap64; omega
                    have hwq1 : wrap64 q1 = q1 := by unfold wrap64; omega
                    have hwq2 : wrap64 q2 = q2 := by unfold wrap64; omega
                    have hwj2 : wrap64 (i - n1 : Int) = (i - n1 : Int) := by unfold wrap64; omega
                    have hij : (i : Int) - (n1 : Int) = (j : Int) := by omega
                    have hwj : IntKind.i64.wrap (j : Int) = (j : Int) := IntWalk.i64_in _ (by omega)
                    have hi1' : ¬ (i : Int) < (n1 : Int) := by omega
                    have a0 := hc1' 0 (by decide); have a1 := hc1' 1 (by decide); have a2 := hc1' 2 (by decide); have a3' := hc1' 3 (by decide); have a4 := hc1' 4 (by decide); have a5 := hc1' 5 (by decide); have a6 := hc1' 6 (by decide); have a7 := hc1' 7 (by decide)
                    have b0 := hc3' 0 (by decide); have b1 := hc3' 1 (by decide); have b2 := hc3' 2 (by decide); have b3 := hc3' 3 (by decide); have b4 := hc3' 4 (by decide); have b5 := hc3' 5 (by decide); have b6 := hc3' 6 (by decide); have b7 := hc3' 7 (by decide)
                    simp only [List.getElem_cons_zero, List.getElem_cons_succ, Nat.add_zero] at a0 a1 a2 a3' a4 a5 a6 a7 b0 b1 b2 b3 b4 b5 b6 b7
                    rw [← haz] at a7
                    rw [← haz, show az + ((P.length + s.size + 1 : Nat) : Int) = a3 by omega] at b7
                    have hsm := tok_same9 kd tx ng x y sc dy a3
                    have hg1r : g1 < wr.heap.size := Nat.lt_of_lt_of_le hg1 hbw.out.size
                    have hg3r : g3 < wr.heap.size := Nat.lt_of_lt_of_le hg3 hbw.out.size
                    clear hc1 hc1' hc3 hc3' eA eB hu hi8 hi9 hat haz hbw hj
                    go_wp2
                    go_region
                    all_goals
                      go_wp2
                      go_roundw
                      case rel => exact ⟨i + 1, by go_num, by omega, Lib.hid (HBR.out _ (by (repeat' (first | (with_reducible exact Below.refl _ _) | (with_reducible assumption) | (with_reducible refine Below.alloc ?_ ?_ _) | (with_reducible refine below_drewN ?_ _) | (with_reducible refine below_drew ?_) | (with_reducible refine below_ext ?_ ?_ _ _) | (with_reducible refine Below.setCell ?_ ?_ _) | (simp; done) | (simp; omega) | omega))))⟩
                      case measure => simp [intOf]; omega
                · have HB3 := Lib.hid (bel_up HBW.out hbw.out)
                  clear hbw
                  go_wp2
                  go_ret
                  exact ⟨rfl, HB3.out⟩
            · have hne : (e2 != 0) = true := by simpa using he2
              subst he1
              clear he2
              go_wp2_with (first
                | (go_at_call 5; ((with_reducible refine (H1.out _ (HT.out _ (by (repeat' (first | (with_reducible exact Below.refl _ _) | (with_reducible assumption) | (with_reducible refine Below.alloc ?_ ?_ _) | (with_reducible refine below_drewN ?_ _) | (with_reducible refine below_drew ?_) | (with_reducible refine below_ext ?_ ?_ _ _) | (with_reducible refine Below.setCell ?_ ?_ _) | (simp; done) | (simp; omega) | omega)))) (HL.out _ (by (repeat' (first | (with_reducible exact Below.refl _ _) | (with_reducible assumption) | (with_reducible refine Below.alloc ?_ ?_ _) | (with_reducible refine below_drewN ?_ _) | (with_reducible refine below_drew ?_) | (with_reducible refine below_ext ?_ ?_ _ _) | (with_reducible refine Below.setCell ?_ ?_ _) | (simp; done) | (simp; omega) | omega))))).mono ?_); rintro e w1 ⟨v1, rfl, hb⟩; obtain ⟨os1, d1, rfl⟩ := ext_of_below hb.2.1; clear hb))
                | (go_at_call 5; ((with_reducible refine (H2.out _ (HT.out _ (by (repeat' (first | (with_reducible exact Below.refl _ _) | (with_reducible assumption) | (with_reducible refine Below.alloc ?_ ?_ _) | (with_reducible refine below_drewN ?_ _) | (with_reducible refine below_drew ?_) | (with_reducible refine below_ext ?_ ?_ _ _) | (with_reducible refine Below.setCell ?_ ?_ _) | (simp; done) | (simp; omega) | omega)))) (HL.out _ (by (repeat' (first | (with_reducible exact Below.refl _ _) | (with_reducible assumption) | (with_reducible refine Below.alloc ?_ ?_ _) | (with_reducible refine below_drewN ?_ _) | (with_reducible refine below_drew ?_) | (with_reducible refine below_ext ?_ ?_ _ _) | (with_reducible refine Below.setCell ?_ ?_ _) | (simp; done) | (simp; omega) | omega))))).mono ?_); rintro e w1 ⟨v2, rfl, hb⟩; obtain ⟨os2, d2, rfl⟩ := ext_of_below hb.2.1; clear hb))
                | (go_at_call 5; ((with_reducible refine (H3.out _ (HT.out _ (by (repeat' (first | (with_reducible exact Below.refl _ _) | (with_reducible assumption) | (with_reducible refine Below.alloc ?_ ?_ _) | (with_reducible refine below_drewN ?_ _) | (with_reducible refine below_drew ?_) | (with_reducible refine below_ext ?_ ?_ _ _) | (with_reducible refine Below.setCell ?_ ?_ _) | (simp; done) | (simp; omega) | omega)))) (HL.out _ (by (repeat' (first | (with_reducible exact Below.refl _ _) | (with_reducible assumption) | (with_reducible refine Below.alloc ?_ ?_ _) | (with_reducible refine below_drewN ?_ _) | (with_reducible refine below_drew ?_) | (with_reducible refine below_ext ?_ ?_ _ _) | (with_reducible refine Below.setCell ?_ ?_ _) | (simp; done) | (simp; omega) | omega))))).mono ?_); rintro e w1 ⟨v3, rfl, hb⟩; obtain ⟨os3, d3, rfl⟩ := ext_of_below hb.2.1; clear hb)))
              go_ret
              exact ⟨rfl, by (repeat' (first | (with_reducible exact Below.refl _ _) | (with_reducible assumption) | (with_reducible refine Below.alloc ?_ ?_ _) | (with_reducible refine below_drewN ?_ _) | (with_reducible refine below_drew ?_) | (with_reducible refine below_ext ?_ ?_ _ _) | (with_reducible refine Below.setCell ?_ ?_ _) | (simp; done) | (simp; omega) | omega))⟩
          · have hne : (e1 != 0) = true := by simpa using he1
            clear he1
            go_wp2_with (first
              | (go_at_call 5; ((with_reducible refine (H1.out _ (HT.out _ (by (repeat' (first | (with_reducible exact Below.refl _ _) | (with_reducible assumption) | (with_reducible refine Below.alloc ?_ ?_ _) | (with_reducible refine below_drewN ?_ _) | (with_reducible refine below_drew ?_) | (with_reducible refine below_ext ?_ ?_ _ _) | (with_reducible refine Below.setCell ?_ ?_ _) | (simp; done) | (simp; omega) | omega)))) (HL.out _ (by (repeat' (first | (with_reducible exact Below.refl _ _) | (with_reducible assumption) | (with_reducible refine Below.alloc ?_ ?_ _) | (with_reducible refine below_drewN ?_ _) | (with_reducible refine below_drew ?_) | (with_reducible refine below_ext ?_ ?_ _ _) | (with_reducible refine Below.setCell ?_ ?_ _) | (simp; done) | (simp; omega) | omega))))).mono ?_); rintro e w1 ⟨v1, rfl, hb⟩; obtain ⟨os1, d1, rfl⟩ := ext_of_below hb.2.1; clear hb))
              | (go_at_call 5; ((with_reducible refine (H2.out _ (HT.out _ (by (repeat' (first | (with_reducible exact Below.refl _ _) | (with_reducible assumption) | (with_reducible refine Below.alloc ?_ ?_ _) | (with_reducible refine below_drewN ?_ _) | (with_reducible refine below_drew ?_) | (with_reducible refine below_ext ?_ ?_ _ _) | (with_reducible refine Below.setCell ?_ ?_ _) | (simp; done) | (simp; omega) | omega)))) (HL.out _ (by (repeat' (first | (with_reducible exact Below.refl _ _) | (with_reducible assumption) | (with_reducible refine Below.alloc ?_ ?_ _) | (with_reducible refine below_drewN ?_ _) | (with_reducible refine below_drew ?_) | (with_reducible refine below_ext ?_ ?_ _ _) | (with_reducible refine Below.setCell ?_ ?_ _) | (simp; done) | (simp; omega) | omega))))).mono ?_); rintro e w1 ⟨v2, rfl, hb⟩; obtain ⟨os2, d2, rfl⟩ := ext_of_below hb.2.1; clear hb))
              | (go_at_call 5; ((with_reducible refine (H3.out _ (HT.out _ (by (repeat' (first | (with_reducible exact Below.refl _ _) | (with_reducible assumption) | (with_reducible refine Below.alloc ?_ ?_ _) | (with_reducible refine below_drewN ?_ _) | (with_reducible refine below_drew ?_) | (with_reducible refine below_ext ?_ ?_ _ _) | (with_reducible refine Below.setCell ?_ ?_ _) | (simp; done) | (simp; omega) | omega)))) (HL.out _ (by (repeat' (first | (with_reducible exact Below.refl _ _) | (with_reducible assumption) | (with_reducible refine Below.alloc ?_ ?_ _) | (with_reducible refine below_drewN ?_ _) | (with_reducible refine below_drew ?_) | (with_reducible refine below_ext ?_ ?_ _ _) | (with_reducible refine Below.setCell ?_ ?_ _) | (simp; done) | (simp; omega) | omega))))).mono ?_); rintro e w1 ⟨v3, rfl, hb⟩; obtain ⟨os3, d3, rfl⟩ := ext_of_below hb.2.1; clear hb)))
            go_ret
            exact ⟨rfl, by (repeat' (first | (with_reducible exact Below.refl _ _) | (with_reducible assumption) | (with_reducible refine Below.alloc ?_ ?_ _) | (with_reducible refine below_drewN ?_ _) | (with_reducible refine below_drew ?_) | (with_reducible refine below_ext ?_ ?_ _ _) | (with_reducible refine Below.setCell ?_ ?_ _) | (simp; done) | (simp; omega) | omega))⟩
    · have g1 : (s.size : Int) ≤ 400 := by omega
      have g2 : ¬ (t.size : Int) ≤ 400 := by omega
      clear hF hT hL
      go_enter Tryd.func3, Tryd.ntmps3
      go_wp2_with ((go_at_call 4; ((with_reducible refine (HK.out).mono ?_); rintro e w1 ⟨rfl, hb1⟩; obtain ⟨osA, dA, rfl⟩ := ext_of_below hb1; clear hb1)))
      all_goals first
        | (exfalso; omega)
        | (go_ret; exact ⟨rfl, by (repeat' (first | (with_reducible exact Below.refl _ _) | (with_reducible assumption) | (with_reducible refine Below.alloc ?_ ?_ _) | (with_reducible refine below_drewN ?_ _) | (with_reducible refine below_drew ?_) | (with_reducible refine below_ext ?_ ?_ _ _) | (with_reducible refine Below.setCell ?_ ?_ _) | (simp; done) | (simp; omega) | omega))⟩)
  · have g1 : ¬ (s.size : Int) ≤ 400 := by omega
    clear hF hT hL
    go_enter Tryd.func3, Tryd.ntmps3
    go_wp2_with ((go_at_call 4; ((with_reducible refine (HK.out).mono ?_); rintro e w1 ⟨rfl, hb1⟩; obtain ⟨osA, dA, rfl⟩ := ext_of_below hb1; clear hb1)))
    all_goals first
      | (exfalso; omega)
      | (go_ret; exact ⟨rfl, by (repeat' (first | (with_reducible exact Below.refl _ _) | (with_reducible assumption) | (with_reducible refine Below.alloc ?_ ?_ _) | (with_reducible refine below_drewN ?_ _) | (with_reducible refine below_drew ?_) | (with_reducible refine below_ext ?_ ?_ _ _) | (with_reducible refine Below.setCell ?_ ?_ _) | (simp; done) | (simp; omega) | omega))⟩)
theorem lexJoins_lawL (s t : ByteArray) (bz : Int) (hs : s.size ≤ 140737488351232) (ht : t.size ≤ 140737488351232) (w : World) (h : Tabs w ∧ Lens w) :
    Calls Tryd.prog 3 #[.string s, .string t, .int .i64 bz] w fun e w' => e = .returned (.bool true) ∧ Below w.heap.size w w' := lexJoins_law s t bz (by unfold maxLen; omega) (by unfold maxLen; omega) w h.1 h.2
end Go.Proofs.YtonajmngchfjeaaDoor
