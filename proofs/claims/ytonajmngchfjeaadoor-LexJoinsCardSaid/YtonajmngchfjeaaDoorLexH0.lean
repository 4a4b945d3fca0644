/-
  The lexer's machine: the pass from label 0.
-/
import Derived.Test.YtonajmngchfjeaaDoorLexHa
namespace Go.Proofs.YtonajmngchfjeaaDoor
open Go.RowKit Word
open Lx (Tok)
attribute [local go_sem] setCell_drewN cell?_ext frozen?_ext shape?_ext setCell_ext lt_1' ne_1' en_1' le_1' lt_2' ne_2' en_2' le_2' lt_3' ne_3' en_3' le_3' lt_4' ne_4' en_4' le_4' lt_5' ne_5' en_5' le_5' lt_6' ne_6' en_6' le_6' lt_7' ne_7' en_7' le_7' lt_8' ne_8' en_8' le_8' lt_9' ne_9' en_9' le_9' lt_10' ne_10' en_10' le_10' lt_11' ne_11' en_11' le_11' lt_12' ne_12' en_12' le_12'

set_option maxRecDepth 100000 in
set_option maxHeartbeats 32000000 in
theorem tok_pass0 : TokPass 0 := by
  intro W0 p s F R hyp a' wr hJ
  obtain ⟨hs, hR, hN, hW, hnum, hday, huq⟩ := hyp
  have hz : s.data.toList.length = s.size := rfl
  have HR := Lib.hid hR
  have HN := Lib.hid hN
  have HW := Lib.hid hW
  have HNUM := Lib.hid hnum
  have HDAY := Lib.hid hday
  have HUQ := Lib.hid huq
  clear hR hN hW hnum hday huq
  intro Q'
  obtain ⟨k, b, n, lv, ts, ov, fr, u1, u2, u3, u4, u5, u6, u7, u8, u9, u10, u11, u12, u13, u14, u15, u16, u17, u18, u19, u20, u21, u22, u23, u24, u25, u26, u27, u28, u29, u30, u31, u32, u33, u34, u35, u36, u37, u38, u39, u40, u41, u42, u43, u44, u45, u46, u47, u48, u49, u50, u51, u52, u53, u54, u55, u56, u57, u58, u59, u60, u61, u62, u63, u64, u65, u66, u67, u68, u69, u70, u71, u72, u73, u74, u75, u76, u77, u78, u79, u80, u81, u82, u83, u84, u85, u86, u87, u88, u89, u90, u91, u92, u93, u94, u95, u96, u97, u98, u99, u100, u101, u102, u103, u104, u105, u106, u107, rfl, hk, hr0, hst⟩ := hJ
  have W1 : IntKind.i64.wrap ((k : Int) + 1) = (k : Int) + 1 := IntWalk.i64_in _ (by omega)
  have HM := Lib.hid (lxAt_is hr0.out)
  have c0 := hr0.out.c0
  have c1 := hr0.out.c1
  have f1 := hr0.out.free 1 (by decide)
  have f2 := hr0.out.free 2 (by decide)
  have RN := Lib.hid (hr0.out.at_ (k + 1) (z := (k : Int) + 1) (by omega))
  rcases hst.out with ⟨h9, hc⟩ | ⟨h9, hc, ⟨hb, hdb⟩, h1, h2⟩ | ⟨h9, hc, ⟨hb, hdb, hlb⟩, h1, h2⟩ | ⟨h9, hc, hb, h1⟩ | ⟨h9, hc, ⟨hb, hdb⟩, h1, h2⟩ | ⟨h9, hc, ⟨hb, hdb⟩, h1⟩
  · clear h9
    refine ⟨_, rfl, ?_⟩
    have RB := Lib.hid (hr0.out.bg k (z := (k : Int)) rfl)
    have c2 := hr0.out.c2
    clear hst hr0 RN
    have PK0 : Hid (∀ w, Rdr W0 w p s k k lv ts ov fr → Calls Tryd.prog 11 #[.pointer (some ⟨p, 0, none⟩), .int .i64 0] w fun e w' => e = .returned (.int .u8 ((Lx.at0 s.data.toList k).toNat : Int)) ∧ ∃ d, w' = w.drewN d) := Lib.hid (fun w h => peek_any 0 (by decide) (by omega) w h)
    by_cases hlt : k < s.size
    · have hb : k < s.data.toList.length := hlt
      obtain ⟨c, hcc⟩ : ∃ c, c = s.data.toList[k] := ⟨_, rfl⟩
      have hc0 : c ≠ 0 := by rw [hcc]; exact HN.out k hlt
      have hbl := fun w => lxBlank_any c w
      have hdg := fun w => lxDigit_any c w
      have hle := fun w => lxLetter_any c w
      rw [Lx.at0_of hb, ← hcc] at PK0
      obtain ⟨z, hzz⟩ : ∃ z : Int, z = (c.toNat : Int) := ⟨_, rfl⟩
      have g0 : (z == 0) = false := by rw [hzz]; exact u8_ne (k := 0) hc0
      rw [← hzz] at PK0 hbl hdg hle
      have PK := PK0
      have HCHK := Lib.hid hc
      clear PK0 hc
      cases h1 : Lx.bl c with
      | true =>
        obtain ⟨m2, hm2⟩ := HCHK.out.blank hb (by rw [← hcc]; exact h1)
        have H2 := Lib.hid hm2
        rw [h1] at hbl
        have HBL := Lib.hid hbl
        clear hbl hdg hle hm2 h1 hzz hcc
        go_wp2_with (first | (go_at_call 11; (with_reducible refine (PK.out _ RB.out).mono ?_); rintro e w1 ⟨rfl, d, rfl⟩) | (go_at_call 12; ((with_reducible refine (HBL.out _).mono ?_); rintro e w' ⟨rfl, rfl⟩)))
        go_step3
        go_wp2
        refine ⟨⟨k + 1, k, m2, lv, _, _, _, _, _, _, _, _, _, _, _, _, _, _, _, _, _, _, _, _, _, _, _, _, _, _, _, _, _, _, _, _, _, _, _, _, _, _, _, _, _, _, _, _, _, _, _, _, _, _, _, _, _, _, _, _, _, _, _, _, _, _, _, _, _, _, _, _, _, _, _, _, _, _, _, _, _, _, _, _, _, _, _, _, _, _, _, _, _, _, _, _, _, _, _, _, _, _, _, _, _, _, _, _, _, _, _, _, _, _, rfl, by omega, Lib.hid ((RB.out.at_ (k + 1) (z := (k : Int) + 1) (by omega)).drew _), Lib.hid (.inl ⟨rfl, H2.out⟩)⟩, ?_⟩
        simp only [HM.out, lxAt_drew, lxAt_is (RB.out.at_ (k + 1) (z := (k : Int) + 1) (by omega)), farL]; (try simp); (try omega)
      | false =>
        rw [h1] at hbl
        have HBL := Lib.hid hbl
        cases h2 : Lx.dg c with
        | true =>
          have H2 := Lib.hid (show SL F s.data.toList R 1 k k n ts ov fr from .inr (.inl ⟨rfl, HCHK.out, ⟨hb, by rw [← hcc]; exact h2⟩, Nat.le_refl _, by have := Lx.run_pos (p := Lx.dg) hb (by rw [← hcc]; exact h2); omega⟩))
          rw [h2] at hdg
          have HDG := Lib.hid hdg
          clear hbl hdg hle h1 h2 hzz hcc
          go_wp2_with (first | (go_at_call 11; (with_reducible refine (PK.out _ RB.out).mono ?_); rintro e w1 ⟨rfl, d, rfl⟩) | (go_at_call 12; ((with_reducible refine (HBL.out _).mono ?_); rintro e w' ⟨rfl, rfl⟩)) | (go_at_call 13; ((with_reducible refine (HDG.out _).mono ?_); rintro e w' ⟨rfl, rfl⟩)))
          go_step3
          go_wp2
          refine ⟨⟨k, k, n, lv, _, _, _, _, _, _, _, _, _, _, _, _, _, _, _, _, _, _, _, _, _, _, _, _, _, _, _, _, _, _, _, _, _, _, _, _, _, _, _, _, _, _, _, _, _, _, _, _, _, _, _, _, _, _, _, _, _, _, _, _, _, _, _, _, _, _, _, _, _, _, _, _, _, _, _, _, _, _, _, _, _, _, _, _, _, _, _, _, _, _, _, _, _, _, _, _, _, _, _, _, _, _, _, _, _, _, _, _, _, _, rfl, by omega, Lib.hid (RB.out.drew _), Lib.hid (H2.out)⟩, ?_⟩
          simp only [HM.out, lxAt_drew, lxAt_is RB.out, farL]; (try simp); (try omega)
        | false =>
          rw [h2] at hdg
          have HDG := Lib.hid hdg
          cases h3 : Lx.lt c with
          | true =>
            have H2 := Lib.hid (show SL F s.data.toList R 2 k k n ts ov fr from .inr (.inr (.inl ⟨rfl, HCHK.out, ⟨hb, by rw [← hcc]; exact ⟨h2, h3⟩⟩, Nat.le_refl _, by have := Lx.word_pos hb (by rw [← hcc]; exact h3); omega⟩)))
            rw [h3] at hle
            have HLT := Lib.hid hle
            clear hbl hdg hle h1 h2 h3 hzz hcc
            go_wp2_with (first | (go_at_call 11; (with_reducible refine (PK.out _ RB.out).mono ?_); rintro e w1 ⟨rfl, d, rfl⟩) | (go_at_call 12; ((with_reducible refine (HBL.out _).mono ?_); rintro e w' ⟨rfl, rfl⟩)) | (go_at_call 13; ((with_reducible refine (HDG.out _).mono ?_); rintro e w' ⟨rfl, rfl⟩)) | (go_at_call 14; ((with_reducible refine (HLT.out _).mono ?_); rintro e w' ⟨rfl, rfl⟩)))
            go_step3
            go_wp2
            refine ⟨⟨k, k, n, lv, _, _, _, _, _, _, _, _, _, _, _, _, _, _, _, _, _, _, _, _, _, _, _, _, _, _, _, _, _, _, _, _, _, _, _, _, _, _, _, _, _, _, _, _, _, _, _, _, _, _, _, _, _, _, _, _, _, _, _, _, _, _, _, _, _, _, _, _, _, _, _, _, _, _, _, _, _, _, _, _, _, _, _, _, _, _, _, _, _, _, _, _, _, _, _, _, _, _, _, _, _, _, _, _, _, _, _, _, _, _, rfl, by omega, Lib.hid (RB.out.drew _), Lib.hid (H2.out)⟩, ?_⟩
            simp only [HM.out, lxAt_drew, lxAt_is RB.out, farL]; (try simp); (try omega)
          | false =>
            rw [h3] at hle
            have HLT := Lib.hid hle
            by_cases h4 : c = 64
            · have H2 := Lib.hid (show SL F s.data.toList R 3 (k + 1) k n ts ov fr from .inr (.inr (.inr (.inl ⟨rfl, HCHK.out, hb, .inl ⟨by rw [← hcc]; exact h4, rfl⟩⟩))))
              obtain rfl : z = 64 := by rw [hzz, h4]; rfl
              clear hbl hdg hle h1 h2 h3 h4 hzz hcc
              go_wp2_with (first | (go_at_call 11; (with_reducible refine (PK.out _ RB.out).mono ?_); rintro e w1 ⟨rfl, d, rfl⟩) | (go_at_call 12; ((with_reducible refine (HBL.out _).mono ?_); rintro e w' ⟨rfl, rfl⟩)) | (go_at_call 13; ((with_reducible refine (HDG.out _).mono ?_); rintro e w' ⟨rfl, rfl⟩)) | (go_at_call 14; ((with_reducible refine (HLT.out _).mono ?_); rintro e w' ⟨rfl, rfl⟩)))
              go_step3
              go_wp2
              refine ⟨⟨k + 1, k, n, lv, _, _, _, _, _, _, _, _, _, _, _, _, _, _, _, _, _, _, _, _, _, _, _, _, _, _, _, _, _, _, _, _, _, _, _, _, _, _, _, _, _, _, _, _, _, _, _, _, _, _, _, _, _, _, _, _, _, _, _, _, _, _, _, _, _, _, _, _, _, _, _, _, _, _, _, _, _, _, _, _, _, _, _, _, _, _, _, _, _, _, _, _, _, _, _, _, _, _, _, _, _, _, _, _, _, _, _, _, _, _, rfl, by omega, Lib.hid ((RB.out.at_ (k + 1) (z := (k : Int) + 1) (by omega)).drew _), Lib.hid (H2.out)⟩, ?_⟩
              simp only [HM.out, lxAt_drew, lxAt_is (RB.out.at_ (k + 1) (z := (k : Int) + 1) (by omega)), farL]; (try simp); (try omega)
            have g4 : (z == 64) = false := by rw [hzz]; exact u8_ne (k := 64) h4
            by_cases h5 : c = 34
            · have H2 := Lib.hid (show SL F s.data.toList R 3 k k n ts ov fr from .inr (.inr (.inr (.inl ⟨rfl, HCHK.out, hb, .inr ⟨by rw [← hcc]; exact h5, rfl⟩⟩))))
              obtain rfl : z = 34 := by rw [hzz, h5]; rfl
              clear hbl hdg hle h1 h2 h3 h4 h5 hzz hcc
              go_wp2_with (first | (go_at_call 11; (with_reducible refine (PK.out _ RB.out).mono ?_); rintro e w1 ⟨rfl, d, rfl⟩) | (go_at_call 12; ((with_reducible refine (HBL.out _).mono ?_); rintro e w' ⟨rfl, rfl⟩)) | (go_at_call 13; ((with_reducible refine (HDG.out _).mono ?_); rintro e w' ⟨rfl, rfl⟩)) | (go_at_call 14; ((with_reducible refine (HLT.out _).mono ?_); rintro e w' ⟨rfl, rfl⟩)))
              go_step3
              go_wp2
              refine ⟨⟨k, k, n, lv, _, _, _, _, _, _, _, _, _, _, _, _, _, _, _, _, _, _, _, _, _, _, _, _, _, _, _, _, _, _, _, _, _, _, _, _, _, _, _, _, _, _, _, _, _, _, _, _, _, _, _, _, _, _, _, _, _, _, _, _, _, _, _, _, _, _, _, _, _, _, _, _, _, _, _, _, _, _, _, _, _, _, _, _, _, _, _, _, _, _, _, _, _, _, _, _, _, _, _, _, _, _, _, _, _, _, _, _, _, _, rfl, by omega, Lib.hid (RB.out.drew _), Lib.hid (H2.out)⟩, ?_⟩
              simp only [HM.out, lxAt_drew, lxAt_is RB.out, farL]; (try simp); (try omega)
            have g5 : (z == 34) = false := by rw [hzz]; exact u8_ne (k := 34) h5
            have hsg := fun (w : World) (h : Rdr W0 w p s k k lv ts ov fr) => lxSign_any hs hk (by have := HCHK.out.2.2; omega) w h
            have hsl := Lx.sigLen_le (s.data.toList.drop k)
            rw [List.length_drop] at hsl
            by_cases h6 : Lx.sigLen (s.data.toList.drop k) = 0
            · have HB := Lib.hid (HCHK.out.sign_bad hb (by rw [← hcc]; exact h1) (by rw [← hcc]; exact h2) (by rw [← hcc]; exact h3) (by rw [← hcc]; exact h4) (by rw [← hcc]; exact h5) h6)
              rw [decide_eq_false (fun h => h h6)] at hsg
              have HSG := Lib.hid hsg
              clear hbl hdg hle h1 h2 h3 h4 h5 h6 hzz hcc hsg hsl HCHK
              go_wp2_with (first | (go_at_call 11; (with_reducible refine (PK.out _ RB.out).mono ?_); rintro e w1 ⟨rfl, d, rfl⟩) | (go_at_call 12; ((with_reducible refine (HBL.out _).mono ?_); rintro e w' ⟨rfl, rfl⟩)) | (go_at_call 13; ((with_reducible refine (HDG.out _).mono ?_); rintro e w' ⟨rfl, rfl⟩)) | (go_at_call 14; ((with_reducible refine (HLT.out _).mono ?_); rintro e w' ⟨rfl, rfl⟩)) | (go_at_call 15; ((with_reducible refine (HSG.out _ (RB.out.drew _)).mono ?_); rintro e w2 ⟨rfl, lv2, R2⟩; have R3 := Lib.hid R2; clear R2)))
              rw [toLabel_ret]
              go_ret
              exact ⟨by rw [HB.out]; rfl, R3.out.bel, fun ts' ov' fr' hR' => by rw [HB.out] at hR'; cases hR'⟩
            · obtain ⟨m2, hm2⟩ := HCHK.out.sign hb (by rw [← hcc]; exact h1) (by rw [← hcc]; exact h2) (by rw [← hcc]; exact h3) (by rw [← hcc]; exact h4) (by rw [← hcc]; exact h5) h6
              rw [decide_eq_true h6] at hsg
              have HSG := Lib.hid hsg
              have H2 := Lib.hid hm2
              obtain ⟨q, hq⟩ : ∃ q, q = Lx.sigLen (s.data.toList.drop k) := ⟨_, rfl⟩
              clear hbl hdg hle h1 h2 h3 h4 h5 hzz hcc hsg hm2 HCHK
              go_wp2_with (first | (go_at_call 11; (with_reducible refine (PK.out _ RB.out).mono ?_); rintro e w1 ⟨rfl, d, rfl⟩) | (go_at_call 12; ((with_reducible refine (HBL.out _).mono ?_); rintro e w' ⟨rfl, rfl⟩)) | (go_at_call 13; ((with_reducible refine (HDG.out _).mono ?_); rintro e w' ⟨rfl, rfl⟩)) | (go_at_call 14; ((with_reducible refine (HLT.out _).mono ?_); rintro e w' ⟨rfl, rfl⟩)) | (go_at_call 15; ((with_reducible refine (HSG.out _ (RB.out.drew _)).mono ?_); rintro e w2 ⟨rfl, lv2, R2⟩; have R3 := Lib.hid R2; clear R2)))
              go_step3
              go_wp2
              refine ⟨⟨k + Lx.sigLen (s.data.toList.drop k), k, m2, lv2, _, _, _, _, _, _, _, _, _, _, _, _, _, _, _, _, _, _, _, _, _, _, _, _, _, _, _, _, _, _, _, _, _, _, _, _, _, _, _, _, _, _, _, _, _, _, _, _, _, _, _, _, _, _, _, _, _, _, _, _, _, _, _, _, _, _, _, _, _, _, _, _, _, _, _, _, _, _, _, _, _, _, _, _, _, _, _, _, _, _, _, _, _, _, _, _, _, _, _, _, _, _, _, _, _, _, _, _, _, _, rfl, by omega, Lib.hid (R3.out), Lib.hid (.inl ⟨rfl, H2.out⟩)⟩, ?_⟩
              simp only [HM.out, lxAt_is R3.out, farL]; (try simp); (try omega)
    · have HB := Lib.hid (hc.stop (by omega))
      rw [Lx.at0_none (by omega)] at PK0
      have PK1 : Hid (∀ w, Rdr W0 w p s k k lv ts ov fr → Calls Tryd.prog 11 #[.pointer (some ⟨p, 0, none⟩), .int .i64 0] w fun e w' => e = .returned (.int .u8 0) ∧ ∃ d, w' = w.drewN d) := PK0
      have PK := PK1
      clear PK0 PK1 hc
      go_wp2_with (go_at_call 11; (with_reducible refine (PK.out _ RB.out).mono ?_); rintro e w1 ⟨rfl, d, rfl⟩)
      rw [toLabel_ret]
      go_ret
      exact ⟨by rw [HB.out]; rfl, (RB.out.drew d).bel, fun ts' ov' fr' hR' => by rw [HB.out] at hR'; cases hR'; exact ⟨k, k, lv, RB.out.drew d⟩⟩
  · exact absurd h9 (by decide)
  · exact absurd h9 (by decide)
  · exact absurd h9 (by decide)
  · exact absurd h9 (by decide)
  · exact absurd h9 (by decide)
end Go.Proofs.YtonajmngchfjeaaDoor
