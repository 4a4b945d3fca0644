/-
  The lexer's tokens.
-/
import Derived.Test.YtonajmngchfjeaaDoorLexH0
import Derived.Test.YtonajmngchfjeaaDoorLexH1
import Derived.Test.YtonajmngchfjeaaDoorLexH2
import Derived.Test.YtonajmngchfjeaaDoorLexH3
import Derived.Test.YtonajmngchfjeaaDoorLexH4
import Derived.Test.YtonajmngchfjeaaDoorLexH5
namespace Go.Proofs.YtonajmngchfjeaaDoor
open Go.RowKit Word
open Lx (Tok)
attribute [local go_sem] setCell_drewN cell?_ext frozen?_ext shape?_ext setCell_ext lt_1' ne_1' en_1' le_1' lt_2' ne_2' en_2' le_2' lt_3' ne_3' en_3' le_3' lt_4' ne_4' en_4' le_4' lt_5' ne_5' en_5' le_5' lt_6' ne_6' en_6' le_6' lt_7' ne_7' en_7' le_7' lt_8' ne_8' en_8' le_8' lt_9' ne_9' en_9' le_9' lt_10' ne_10' en_10' le_10' lt_11' ne_11' en_11' le_11' lt_12' ne_12' en_12' le_12'

set_option maxRecDepth 100000 in
set_option maxHeartbeats 32000000 in
theorem tokens_any {W0 : World} {p : Nat} {s : ByteArray} {F : Lx.Fn} {R : Option (List Tok × Bool × Bool)} (hyp : TokHyp F R s W0) (w : World) (hr : Rdr W0 w p s 0 0 (.slice none 0 0) [] false false) :
    Calls Tryd.prog 8 #[.pointer (some ⟨p, 0, none⟩)] w fun r w' => r = .returned (.bool R.isSome) ∧ Below W0.heap.size W0 w' ∧
      ∀ ts ov fr, R = some (ts, ov, fr) → ∃ k b lv, Rdr W0 w' p s k b lv ts ov fr := by
  have HY := Lib.hid hyp
  have HR := Lib.hid hyp.hR
  have HRD := Lib.hid hr
  have hz : s.data.toList.length = s.size := rfl
  clear hyp hr
  go_enter Tryd.func8, Tryd.ntmps8
  go_wp2
  refine wp_labels2 (JL s F R W0 p) (fun l a' wr => farL s.size l (lxAt wr p)) ?_ ?_
  · intro l a' wr hJ
    have hl : l = 0 ∨ l = 1 ∨ l = 2 ∨ l = 3 ∨ l = 4 ∨ l = 5 := by
      obtain ⟨k, b, n, lv, ts, ov, fr, u1, u2, u3, u4, u5, u6, u7, u8, u9, u10, u11, u12, u13, u14, u15, u16, u17, u18, u19, u20, u21, u22, u23, u24, u25, u26, u27, u28, u29, u30, u31, u32, u33, u34, u35, u36, u37, u38, u39, u40, u41, u42, u43, u44, u45, u46, u47, u48, u49, u50, u51, u52, u53, u54, u55, u56, u57, u58, u59, u60, u61, u62, u63, u64, u65, u66, u67, u68, u69, u70, u71, u72, u73, u74, u75, u76, u77, u78, u79, u80, u81, u82, u83, u84, u85, u86, u87, u88, u89, u90, u91, u92, u93, u94, u95, u96, u97, u98, u99, u100, u101, u102, u103, u104, u105, u106, u107, -, -, -, hst⟩ := hJ
      rcases hst.out with ⟨h, -⟩ | ⟨h, -⟩ | ⟨h, -⟩ | ⟨h, -⟩ | ⟨h, -⟩ | ⟨h, -⟩ <;> omega
    rcases hl with rfl | rfl | rfl | rfl | rfl | rfl
    · exact tok_pass0 HY.out a' wr hJ
    · exact tok_pass1 HY.out a' wr hJ
    · exact tok_pass2 HY.out a' wr hJ
    · exact tok_pass3 HY.out a' wr hJ
    · exact tok_pass4 HY.out a' wr hJ
    · exact tok_pass5 HY.out a' wr hJ
  · intro hp
    have H2 := Lib.hid (show SL F s.data.toList R 0 0 0 (s.size + 1) [] false false from .inl ⟨rfl, by rw [List.drop_zero]; exact HR.out.symm, by omega, Nat.le_refl _⟩)
    go_wp2
    go_step3
    simp only [Exit.then]
    rename_i ha
    refine ha _ _ ?_
    refine hp 0 _ _ ?_ _ rfl
    exact ⟨0, 0, _, _, _, _, _, _, _, _, _, _, _, _, _, _, _, _, _, _, _, _, _, _, _, _, _, _, _, _, _, _, _, _, _, _, _, _, _, _, _, _, _, _, _, _, _, _, _, _, _, _, _, _, _, _, _, _, _, _, _, _, _, _, _, _, _, _, _, _, _, _, _, _, _, _, _, _, _, _, _, _, _, _, _, _, _, _, _, _, _, _, _, _, _, _, _, _, _, _, _, _, _, _, _, _, _, _, _, _, _, _, _, _, rfl, Nat.zero_le _, HRD, H2⟩
end Go.Proofs.YtonajmngchfjeaaDoor
