/-
  The lexer's machine: the pass from label 5.
-/
import Derived.Test.YtonajmngchfjeaaDoorLexHa
namespace Go.Proofs.YtonajmngchfjeaaDoor
open Go.RowKit Word
open Lx (Tok)
attribute [local go_sem] setCell_drewN cell?_ext frozen?_ext shape?_ext setCell_ext lt_1' ne_1' en_1' le_1' lt_2' ne_2' en_2' le_2' lt_3' ne_3' en_3' le_3' lt_4' ne_4' en_4' le_4' lt_5' ne_5' en_5' le_5' lt_6' ne_6' en_6' le_6' lt_7' ne_7' en_7' le_7' lt_8' ne_8' en_8' le_8' lt_9' ne_9' en_9' le_9' lt_10' ne_10' en_10' le_10' lt_11' ne_11' en_11' le_11' lt_12' ne_12' en_12' le_12'

set_option maxRecDepth 100000 in
set_option maxHeartbeats 32000000 in
theorem tok_pass5 : TokPass 5 := by
  intro W0 p s F R hyp a' wr hJ
  obtain ⟨hs, hR, hN, hW, hnum, hday, huq⟩ := hyp
  have hz : s.data.toList.length = s.size := rfl
  have HR := Lib.hid hR
  have HN := Lib.hid hN
  have HW := Lib.hid hW
  have HNUM := Lib.hid hnum
  have HDAY := Lib.hid hday
  have HUQ := Lib.hid huq
  clear hR hN hW hnum hday huq
  intro Q'
  obtain ⟨k, b, n, lv, ts, ov, fr, u1, u2, u3, u4, u5, u6, u7, u8, u9, u10, u11, u12, u13, u14, u15, u16, u17, u18, u19, u20, u21, u22, u23, u24, u25, u26, u27, u28, u29, u30, u31, u32, u33, u34, u35, u36, u37, u38, u39, u40, u41, u42, u43, u44, u45, u46, u47, u48, u49, u50, u51, u52, u53, u54, u55, u56, u57, u58, u59, u60, u61, u62, u63, u64, u65, u66, u67, u68, u69, u70, u71, u72, u73, u74, u75, u76, u77, u78, u79, u80, u81, u82, u83, u84, u85, u86, u87, u88, u89, u90, u91, u92, u93, u94, u95, u96, u97, u98, u99, u100, u101, u102, u103, u104, u105, u106, u107, rfl, hk, hr0, hst⟩ := hJ
  have W1 : IntKind.i64.wrap ((k : Int) + 1) = (k : Int) + 1 := IntWalk.i64_in _ (by omega)
  have HM := Lib.hid (lxAt_is hr0.out)
  have c0 := hr0.out.c0
  have c1 := hr0.out.c1
  have f1 := hr0.out.free 1 (by decide)
  have f2 := hr0.out.free 2 (by decide)
  have RN := Lib.hid (hr0.out.at_ (k + 1) (z := (k : Int) + 1) (by omega))
  rcases hst.out with ⟨h9, hc⟩ | ⟨h9, hc, ⟨hb, hdb⟩, h1, h2⟩ | ⟨h9, hc, ⟨hb, hdb, hlb⟩, h1, h2⟩ | ⟨h9, hc, hb, h1⟩ | ⟨h9, hc, ⟨hb, hdb⟩, h1, h2⟩ | ⟨h9, hc, ⟨hb, hdb⟩, h1⟩
  · exact absurd h9 (by decide)
  · exact absurd h9 (by decide)
  · exact absurd h9 (by decide)
  · exact absurd h9 (by decide)
  · exact absurd h9 (by decide)
  · clear h9
    refine ⟨_, rfl, ?_⟩
    clear hst RN
    have HCHK := Lib.hid hc
    have hni := Lx.num_in (L := s.data.toList) (b := b)
    clear hc
    have hq9 := h1
    obtain ⟨⟨neg, c9, sc, e⟩, hF⟩ : ∃ q, q = F.num (cutT s b k) := ⟨_, rfl⟩
    obtain ⟨he, hcall⟩ := HNUM.out (cutT s b k) (by rw [cutT_len (by omega) (by omega)]; omega)
    rw [← hF] at he hcall
    have HNM := Lib.hid (fun (w : World) (h : Rdr W0 w p s k b lv ts ov fr) => number_told neg c9 sc e he (by omega) (by omega) (by have := HCHK.out.2.2; omega) w h hcall)
    have hcut9 : cutT s b k = (s.data.toList.drop b).take (Lx.numLen (s.data.toList.drop b)) := by unfold cutT; rw [show k - b = Lx.numLen (s.data.toList.drop b) by omega]
    rw [hcut9] at hF
    by_cases e5 : e = 5
    · have HB := Lib.hid (HCHK.out.num_bad hb hdb (by rw [← hF]; exact e5))
      subst e5
      rw [show decide ((5 : Int) ≠ 5) = false from rfl] at HNM
      clear hF he hcall hcut9 HCHK
      go_wp2_with (go_at_call 16; ((with_reducible refine (HNM.out _ hr0.out).mono ?_); rintro e w2 ⟨rfl, lv2, R2⟩; have R3 := Lib.hid R2; clear R2))
      rw [toLabel_ret]
      go_ret
      exact ⟨by rw [HB.out]; rfl, R3.out.bel, fun ts' ov' fr' hR' => by rw [HB.out] at hR'; cases hR'⟩
    · obtain ⟨m2, hm2⟩ := HCHK.out.num hb hdb neg c9 sc e hF.symm (by rcases he with h | h | h; exact .inl h; exact .inr h; exact absurd h e5)
      rw [← hq9] at hm2
      have H2 := Lib.hid hm2
      rw [decide_eq_true (show e ≠ 5 from e5)] at HNM
      clear hF he hcall hcut9 HCHK hm2 e5
      go_wp2_with (go_at_call 16; ((with_reducible refine (HNM.out _ hr0.out).mono ?_); rintro e w2 ⟨rfl, lv2, R2⟩; have R3 := Lib.hid R2; clear R2))
      go_step3
      go_wp2
      refine ⟨⟨k, b, m2, lv2, _, _, _, _, _, _, _, _, _, _, _, _, _, _, _, _, _, _, _, _, _, _, _, _, _, _, _, _, _, _, _, _, _, _, _, _, _, _, _, _, _, _, _, _, _, _, _, _, _, _, _, _, _, _, _, _, _, _, _, _, _, _, _, _, _, _, _, _, _, _, _, _, _, _, _, _, _, _, _, _, _, _, _, _, _, _, _, _, _, _, _, _, _, _, _, _, _, _, _, _, _, _, _, _, _, _, _, _, _, _, rfl, by omega, Lib.hid (R3.out), Lib.hid (.inl ⟨rfl, H2.out⟩)⟩, ?_⟩
      have hm2 := lxAt_is R3.out
      simp only [HM.out, hm2, farL]; (try simp); (try omega)
end Go.Proofs.YtonajmngchfjeaaDoor
