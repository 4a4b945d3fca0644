/-
  The lexer's machine: the pass from label 3.
-/
import Derived.Test.YtonajmngchfjeaaDoorLexHa
namespace Go.Proofs.YtonajmngchfjeaaDoor
open Go.RowKit Word
open Lx (Tok)
attribute [local go_sem] setCell_drewN cell?_ext frozen?_ext shape?_ext setCell_ext lt_1' ne_1' en_1' le_1' lt_2' ne_2' en_2' le_2' lt_3' ne_3' en_3' le_3' lt_4' ne_4' en_4' le_4' lt_5' ne_5' en_5' le_5' lt_6' ne_6' en_6' le_6' lt_7' ne_7' en_7' le_7' lt_8' ne_8' en_8' le_8' lt_9' ne_9' en_9' le_9' lt_10' ne_10' en_10' le_10' lt_11' ne_11' en_11' le_11' lt_12' ne_12' en_12' le_12'

set_option maxRecDepth 100000 in
set_option maxHeartbeats 32000000 in
theorem tok_pass3 : TokPass 3 := by
  intro W0 p s F R hyp a' wr hJ
  obtain ⟨hs, hR, hN, hW, hnum, hday, huq⟩ := hyp
  have hz : s.data.toList.length = s.size := rfl
  have HR := Lib.hid hR
  have HN := Lib.hid hN
  have HW := Lib.hid hW
  have HNUM := Lib.hid hnum
  have HDAY := Lib.hid hday
  have HUQ := Lib.hid huq
  clear hR hN hW hnum hday huq
  intro Q'
  obtain ⟨k, b, n, lv, ts, ov, fr, u1, u2, u3, u4, u5, u6, u7, u8, u9, u10, u11, u12, u13, u14, u15, u16, u17, u18, u19, u20, u21, u22, u23, u24, u25, u26, u27, u28, u29, u30, u31, u32, u33, u34, u35, u36, u37, u38, u39, u40, u41, u42, u43, u44, u45, u46, u47, u48, u49, u50, u51, u52, u53, u54, u55, u56, u57, u58, u59, u60, u61, u62, u63, u64, u65, u66, u67, u68, u69, u70, u71, u72, u73, u74, u75, u76, u77, u78, u79, u80, u81, u82, u83, u84, u85, u86, u87, u88, u89, u90, u91, u92, u93, u94, u95, u96, u97, u98, u99, u100, u101, u102, u103, u104, u105, u106, u107, rfl, hk, hr0, hst⟩ := hJ
  have W1 : IntKind.i64.wrap ((k : Int) + 1) = (k : Int) + 1 := IntWalk.i64_in _ (by omega)
  have HM := Lib.hid (lxAt_is hr0.out)
  have c0 := hr0.out.c0
  have c1 := hr0.out.c1
  have f1 := hr0.out.free 1 (by decide)
  have f2 := hr0.out.free 2 (by decide)
  have RN := Lib.hid (hr0.out.at_ (k + 1) (z := (k : Int) + 1) (by omega))
  rcases hst.out with ⟨h9, hc⟩ | ⟨h9, hc, ⟨hb, hdb⟩, h1, h2⟩ | ⟨h9, hc, ⟨hb, hdb, hlb⟩, h1, h2⟩ | ⟨h9, hc, hb, h1⟩ | ⟨h9, hc, ⟨hb, hdb⟩, h1, h2⟩ | ⟨h9, hc, ⟨hb, hdb⟩, h1⟩
  · exact absurd h9 (by decide)
  · exact absurd h9 (by decide)
  · exact absurd h9 (by decide)
  · clear h9
    refine ⟨_, rfl, ?_⟩
    clear hst RN
    have HCHK := Lib.hid hc
    have PK0 : Hid (∀ w, Rdr W0 w p s k b lv ts ov fr → Calls Tryd.prog 11 #[.pointer (some ⟨p, 0, none⟩), .int .i64 0] w fun e w' => e = .returned (.int .u8 ((Lx.at0 s.data.toList k).toNat : Int)) ∧ ∃ d, w' = w.drewN d) := Lib.hid (fun w h => peek_any 0 (by decide) (by omega) w h)
    clear hc
    by_cases h34 : Lx.at0 s.data.toList k = 34
    · have hkl : k < s.data.toList.length := by
        rcases Nat.lt_or_ge k s.data.toList.length with h | h
        · exact h
        · rw [Lx.at0_none (by omega)] at h34; cases h34
      have hk34 : s.data.toList[k] = 34 := by rw [← Lx.at0_of hkl]; exact h34
      rw [h34] at PK0
      have PK : Hid (∀ w, Rdr W0 w p s k b lv ts ov fr → Calls Tryd.prog 11 #[.pointer (some ⟨p, 0, none⟩), .int .i64 0] w fun e w' => e = .returned (.int .u8 34) ∧ ∃ d, w' = w.drewN d) := PK0
      obtain ⟨E, hE⟩ : ∃ E, E = (Lx.quoRest false (s.data.toList.drop (k + 1))).map (· + (k + 1)) := ⟨_, rfl⟩
      have hE2 := hE.trans (Lx.quo_E hkl hk34)
      have hin : ∀ j, Lx.quoLen (s.data.toList.drop k) = some j → 2 ≤ j ∧ k + j ≤ s.size := fun j hj => by
        have h := Lx.quoLen_le hj
        rw [List.length_drop] at h
        omega
      obtain ⟨x, hx, hxl⟩ : ∃ x : List UInt8, (∀ j, Lx.quoLen (s.data.toList.drop k) = some j → x = (s.data.toList.drop k).take j ∧ x = cutT s k (j + k)) ∧ x.length ≤ 1000 := by
        cases hq : Lx.quoLen (s.data.toList.drop k) with
        | none => exact ⟨[], fun j h => (by cases h), Nat.zero_le _⟩
        | some j =>
          refine ⟨(s.data.toList.drop k).take j, fun j' h => ?_, by rw [List.length_take, List.length_drop]; omega⟩
          cases h
          exact ⟨rfl, by unfold cutT; rw [Nat.add_sub_cancel]⟩
      obtain ⟨ht, hu⟩ := HUQ.out x hxl
      obtain ⟨⟨t, eu⟩, hteu⟩ : ∃ q, q = F.uq x := ⟨_, rfl⟩
      rw [← hteu] at ht hu
      obtain ⟨hed, hd⟩ := HDAY.out t ht
      obtain ⟨⟨day, ed⟩, hde⟩ : ∃ q, q = F.day t := ⟨_, rfl⟩
      rw [← hde] at hed hd
      have hbs : b < s.size := hb
      have hq := fun (isAt : Bool) (hA : ((s[b].toNat : Int) == 64) = isAt) (w : World) (h : Rdr W0 w p s k b lv ts ov fr) => quotation_any t eu day ed isAt E hs hk (by omega) (by omega) HN.out (by have := HCHK.out.2.2; omega) hA hE hed (fun q hq w' hw => by
        rw [hE2] at hq
        obtain ⟨j, hj, rfl⟩ := Option.map_eq_some_iff.1 hq
        rw [← (hx j hj).2]; exact hu w' hw) hd w h
      rcases h1 with ⟨h64, rfl⟩ | ⟨h64, rfl⟩
      · have HQ0 := hq true (by show ((s.data.toList[b].toNat : Int) == 64) = true; rw [h64]; rfl)
        obtain ⟨B, hB⟩ : ∃ B, B = (E.isSome && (decide (eu = 0) && (!true || decide (ed ≠ 5)))) := ⟨_, rfl⟩
        rw [← hB] at HQ0
        have HQ := Lib.hid HQ0
        clear HQ0 hq
        cases B with
        | false =>
          have HB : Hid (R = none) := Lib.hid (HCHK.out.date_bad hb h64 (fun j hj h0 => by
            rw [← (hx j hj).1, ← hteu] at h0
            rw [← (hx j hj).1, ← hteu, ← hde]
            rw [hj] at hE2
            rw [hE2, decide_eq_true (show eu = 0 from h0)] at hB
            have h5 : decide (ed ≠ 5) = false := by simpa using hB.symm
            exact Classical.not_not.1 (of_decide_eq_false h5)))
          clear hB hE hE2 hx hteu hde hed hd hu ht HCHK
          go_wp2_with (first | (go_at_call 11; (with_reducible refine (PK.out _ hr0.out).mono ?_); rintro e w1 ⟨rfl, d, rfl⟩) | (go_at_call 18; ((with_reducible refine (HQ.out _ (hr0.out.drew _)).mono ?_); rintro e w2 ⟨rfl, hbel, hpost⟩; have HBEL := Lib.hid hbel; clear hbel hpost)))
          rw [toLabel_ret]
          go_ret
          exact ⟨by rw [HB.out]; rfl, HBEL.out, fun ts' ov' fr' hR' => by rw [HB.out] at hR'; cases hR'⟩
        | true =>
          obtain ⟨q, hEq⟩ : ∃ q, E = some q := Option.isSome_iff_exists.1 (by cases hh : E.isSome with | true => rfl | false => rw [hh] at hB; cases hB)
          obtain ⟨j, hj, hjq⟩ := Option.map_eq_some_iff.1 (hE2.symm.trans hEq)
          have heu : eu = 0 := Classical.byContradiction fun h => by rw [decide_eq_false h] at hB; simp at hB
          have hed5 : ed ≠ 5 := Classical.byContradiction fun h => by rw [decide_eq_false h] at hB; simp at hB
          have hjs := hin j hj
          obtain ⟨m2, hm2⟩ := HCHK.out.date hb h64 j hj (by rw [← (hx j hj).1, ← hteu]; exact heu) day ed (by rw [← (hx j hj).1, ← hteu, ← hde]) (by rcases hed with h | h | h; exact .inl h; exact absurd h hed5; exact .inr h)
          rw [show b + (j + 1) = q by omega] at hm2
          have H2 := Lib.hid hm2
          have HPQ := Lib.hid hEq
          clear hB hE hE2 hx hteu hde hed hd hu ht HCHK hm2
          go_wp2_with (first | (go_at_call 11; (with_reducible refine (PK.out _ hr0.out).mono ?_); rintro e w1 ⟨rfl, d, rfl⟩) | (go_at_call 18; ((with_reducible refine (HQ.out _ (hr0.out.drew _)).mono ?_); rintro e w2 ⟨rfl, hbel, hpost⟩; obtain ⟨lv2, R2⟩ := hpost _ HPQ.out heu (fun h => by first | exact hed5 | cases h); have R3 : Hid (Rdr W0 w2 p s q b lv2 (ts ++ [dateTok day b]) ov (fr || decide (ed = 17))) := Lib.hid (by simpa using R2); clear R2 hbel hpost)))
          go_step3
          go_wp2
          refine ⟨⟨q, b, m2, lv2, _, _, _, _, _, _, _, _, _, _, _, _, _, _, _, _, _, _, _, _, _, _, _, _, _, _, _, _, _, _, _, _, _, _, _, _, _, _, _, _, _, _, _, _, _, _, _, _, _, _, _, _, _, _, _, _, _, _, _, _, _, _, _, _, _, _, _, _, _, _, _, _, _, _, _, _, _, _, _, _, _, _, _, _, _, _, _, _, _, _, _, _, _, _, _, _, _, _, _, _, _, _, _, _, _, _, _, _, _, _, rfl, by omega, Lib.hid (R3.out), Lib.hid (.inl ⟨rfl, H2.out⟩)⟩, ?_⟩
          simp only [HM.out, lxAt_is R3.out, farL]; (try simp); (try omega)
      · have HQ0 := hq false (by show ((s.data.toList[k].toNat : Int) == 64) = false; rw [h64]; rfl)
        obtain ⟨B, hB⟩ : ∃ B, B = (E.isSome && (decide (eu = 0) && (!false || decide (ed ≠ 5)))) := ⟨_, rfl⟩
        rw [← hB] at HQ0
        have HQ := Lib.hid HQ0
        clear HQ0 hq
        cases B with
        | false =>
          have HB : Hid (R = none) := Lib.hid (HCHK.out.str_bad hb h64 (fun j hj h0 => by
            rw [← (hx j hj).1, ← hteu] at h0
            rw [hj] at hE2
            rw [hE2, decide_eq_true (show eu = 0 from h0)] at hB
            simp at hB))
          clear hB hE hE2 hx hteu hde hed hd hu ht HCHK
          go_wp2_with (first | (go_at_call 11; (with_reducible refine (PK.out _ hr0.out).mono ?_); rintro e w1 ⟨rfl, d, rfl⟩) | (go_at_call 18; ((with_reducible refine (HQ.out _ (hr0.out.drew _)).mono ?_); rintro e w2 ⟨rfl, hbel, hpost⟩; have HBEL := Lib.hid hbel; clear hbel hpost)))
          rw [toLabel_ret]
          go_ret
          exact ⟨by rw [HB.out]; rfl, HBEL.out, fun ts' ov' fr' hR' => by rw [HB.out] at hR'; cases hR'⟩
        | true =>
          obtain ⟨q, hEq⟩ : ∃ q, E = some q := Option.isSome_iff_exists.1 (by cases hh : E.isSome with | true => rfl | false => rw [hh] at hB; cases hB)
          obtain ⟨j, hj, hjq⟩ := Option.map_eq_some_iff.1 (hE2.symm.trans hEq)
          have heu : eu = 0 := Classical.byContradiction fun h => by rw [decide_eq_false h] at hB; simp at hB
          have hjs := hin j hj
          obtain ⟨m2, hm2⟩ := HCHK.out.str hb h64 j hj (by rw [← (hx j hj).1, ← hteu]; exact heu)
          rw [← (hx j hj).1, ← hteu, show k + j = q by omega] at hm2
          have H2 := Lib.hid hm2
          have HPQ := Lib.hid hEq
          clear hB hE hE2 hx hteu hde hed hd hu ht HCHK hm2
          go_wp2_with (first | (go_at_call 11; (with_reducible refine (PK.out _ hr0.out).mono ?_); rintro e w1 ⟨rfl, d, rfl⟩) | (go_at_call 18; ((with_reducible refine (HQ.out _ (hr0.out.drew _)).mono ?_); rintro e w2 ⟨rfl, hbel, hpost⟩; obtain ⟨lv2, R2⟩ := hpost _ HPQ.out heu (fun h => by first | exact hed5 | cases h); have R3 : Hid (Rdr W0 w2 p s q k lv2 (ts ++ [strTok t k]) ov (fr)) := Lib.hid (by simpa using R2); clear R2 hbel hpost)))
          go_step3
          go_wp2
          refine ⟨⟨q, k, m2, lv2, _, _, _, _, _, _, _, _, _, _, _, _, _, _, _, _, _, _, _, _, _, _, _, _, _, _, _, _, _, _, _, _, _, _, _, _, _, _, _, _, _, _, _, _, _, _, _, _, _, _, _, _, _, _, _, _, _, _, _, _, _, _, _, _, _, _, _, _, _, _, _, _, _, _, _, _, _, _, _, _, _, _, _, _, _, _, _, _, _, _, _, _, _, _, _, _, _, _, _, _, _, _, _, _, _, _, _, _, _, _, rfl, by omega, Lib.hid (R3.out), Lib.hid (.inl ⟨rfl, H2.out⟩)⟩, ?_⟩
          simp only [HM.out, lxAt_is R3.out, farL]; (try simp); (try omega)
    · have g34 : (((Lx.at0 s.data.toList k).toNat : Int) == 34) = false := u8_ne (k := 34) h34
      obtain ⟨z, hzz⟩ : ∃ z : Int, z = ((Lx.at0 s.data.toList k).toNat : Int) := ⟨_, rfl⟩
      rw [← hzz] at PK0 g34
      have g35 : (z != 34) = true := by rw [bne, g34]; rfl
      have PK := PK0
      have HB : Hid (R = none) := Lib.hid (by
        rcases h1 with ⟨h64, rfl⟩ | ⟨h64, rfl⟩
        · exact HCHK.out.date_bad hb h64 (fun j hj => by rw [Lx.quo_no h34] at hj; cases hj)
        · exact absurd ((Lx.at0_of hb).trans h64) h34)
      clear PK0 hzz h34 HCHK
      go_wp2_with (go_at_call 11; (with_reducible refine (PK.out _ hr0.out).mono ?_); rintro e w1 ⟨rfl, d, rfl⟩)
      rw [toLabel_ret]
      go_ret
      exact ⟨by rw [HB.out]; rfl, (hr0.out.drew d).bel, fun ts' ov' fr' hR' => by rw [HB.out] at hR'; cases hR'⟩
  · exact absurd h9 (by decide)
  · exact absurd h9 (by decide)
end Go.Proofs.YtonajmngchfjeaaDoor
