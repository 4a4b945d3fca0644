/-
  The lexer's symbol: the longest sign ahead.
-/
import Derived.Test.YtonajmngchfjeaaDoorLexT
namespace Go.Proofs.YtonajmngchfjeaaDoor
open Go.RowKit Word
open Lx (Tok)
attribute [local go_sem] setCell_drewN cell?_ext frozen?_ext shape?_ext setCell_ext lt_1' ne_1' en_1' le_1' lt_2' ne_2' en_2' le_2' lt_3' ne_3' en_3' le_3' lt_4' ne_4' en_4' le_4' lt_5' ne_5' en_5' le_5' lt_6' ne_6' en_6' le_6' lt_7' ne_7' en_7' le_7' lt_8' ne_8' en_8' le_8' lt_9' ne_9' en_9' le_9' lt_10' ne_10' en_10' le_10' lt_11' ne_11' en_11' le_11' lt_12' ne_12' en_12' le_12'

theorem lx_slice_to (s : ByteArray) (z : Int) (p : Nat) (hz : z = (p : Int)) (h : p ≤ s.size) : ∀ w, (Instr.slice 9 (.string s) none (some (.int .i64 z)) none).run Tryd.prog w = .ok (.string (s.extract 0 p)) w := by
  subst hz
  intro w
  have := run_slice_string_h (w := w) (P := Tryd.prog) (t := 9) (s := s) Tryd.underlying9 (kh := .i64) (h := (p : Int)) (h0 := by omega) (h2 := by omega)
  rw [this]; rfl
theorem lx_slice_from (s : ByteArray) (z : Int) (p : Nat) (hz : z = (p : Int)) (h : p ≤ s.size) : ∀ w, (Instr.slice 9 (.string s) (some (.int .i64 z)) none none).run Tryd.prog w = .ok (.string (s.extract p s.size)) w := by
  subst hz
  intro w
  have := run_slice_string_l (w := w) (P := Tryd.prog) (t := 9) (s := s) Tryd.underlying9 (kl := .i64) (l := (p : Int)) (h0 := by omega) (h1 := by omega)
  rw [this]; rfl
theorem lx_slice (s : ByteArray) (z y : Int) (p q : Nat) (hz : z = (p : Int)) (hy : y = (q : Int)) (h1 : p ≤ q) (h : q ≤ s.size) : ∀ w, (Instr.slice 9 (.string s) (some (.int .i64 z)) (some (.int .i64 y)) none).run Tryd.prog w = .ok (.string (s.extract p q)) w := by
  subst hz; subst hy
  intro w
  have := run_slice_string (P := Tryd.prog) (w := w) (t := 9) (s := s) (k := .i64) (k' := .i64) (i := (p : Int)) (j := (q : Int)) (h := Tryd.underlying9) (h0 := by omega) (h1 := by omega) (h2 := by omega)
  rw [this]; rfl
theorem ext_take (l : List UInt8) (p : Nat) : (⟨l.toArray⟩ : ByteArray).extract 0 p = ⟨(l.take p).toArray⟩ := by
  apply ByteArray.ext
  simp [ByteArray.data_extract]
theorem ext_list (s : ByteArray) (p q : Nat) : (s.extract p q).data.toList = (s.data.toList.drop p).take (q - p) := by
  rw [ByteArray.data_extract, Array.toList_extract, List.extract_eq_take_drop]
theorem bs_of {x : ByteArray} {l : List UInt8} (h : x.data.toList = l) : x = ⟨l.toArray⟩ := by subst h; rfl
theorem str_eqL {a b : ByteArray} (h : a = b) : Ending.returned (.string a) = .returned (.string b) := by rw [h]
theorem sig1_of {x : ByteArray} {c k : UInt8} (hx : x.toList = [c]) (h : (x.toList == [k]) = true) (hk : Lx.sig1 k = true) : Lx.sig1 c = true := by
  rw [hx] at h
  have := beq_iff_eq.1 h
  injection this with e
  rw [e]; exact hk
theorem sig1_not {x : ByteArray} {c : UInt8} (hx : x.toList = [c]) (h : ∀ k ∈ [40, 41, 91, 93, 123, 125, 44, 58, 46, 43, 45, 42, 47, 61, 60, 62], (x.toList == [k]) = false) : Lx.sig1 c = false := by
  unfold Lx.sig1
  rw [Bool.eq_false_iff]
  intro hc
  rw [List.contains_iff_mem] at hc
  have := h c hc
  rw [hx] at this
  simp at this
theorem sig2_of {x : ByteArray} {c d k j : UInt8} (hx : x.toList = [c, d]) (h : (x.toList == [k, j]) = true) (hk : Lx.sig2 k j = true) : Lx.sig2 c d = true := by
  rw [hx] at h
  have := beq_iff_eq.1 h
  injection this with e e2
  injection e2 with e3
  rw [e, e3]; exact hk
theorem sig2_not {x : ByteArray} {c d : UInt8} (hx : x.toList = [c, d]) (h1 : (x.toList == [46, 46]) = false) (h2 : (x.toList == [33, 61]) = false) (h3 : (x.toList == [60, 61]) = false) (h4 : (x.toList == [62, 61]) = false) : Lx.sig2 c d = false := by
  rw [hx] at h1 h2 h3 h4
  unfold Lx.sig2
  simp at h1 h2 h3 h4 ⊢
  constructor
  · exact h1
  · rintro ((e | e) | e) <;> simp_all
set_option maxRecDepth 100000 in
set_option maxHeartbeats 16000000 in
theorem symbol_any (s : ByteArray) (hs : s.size ≤ 2000) (w : World) :
    Calls Tryd.prog 20 #[.string s] w fun e w' => e = .returned (.string ⟨(s.data.toList.take (Lx.sigLen s.data.toList)).toArray⟩) ∧ w = w' := by
  have hz : s.data.toList.length = s.size := rfl
  obtain ⟨l, hl⟩ : ∃ l, l = s.data.toList := ⟨_, rfl⟩
  rw [← hl] at hz ⊢
  have HL := Lib.hid hl
  obtain ⟨X1, hX1⟩ : ∃ X, X = s.extract 0 1 := ⟨_, rfl⟩
  obtain ⟨X2, hX2⟩ : ∃ X, X = s.extract 0 2 := ⟨_, rfl⟩
  have hx1 : X1 = ⟨(l.take 1).toArray⟩ := by rw [hX1]; apply bs_of; rw [ext_list, ← hl]; rfl
  have hx2 : X2 = ⟨(l.take 2).toArray⟩ := by rw [hX2]; apply bs_of; rw [ext_list, ← hl]; rfl
  have HX1 := Lib.hid hx1; have HX2 := Lib.hid hx2
  clear hl
  cases l with
  | nil =>
    have h0 : s.size = 0 := hz.symm
    have hm0 : min (2 : Int) 0 = 0 := by decide
    clear hx1 hx2 hX1 hX2 hz
    go_enter Tryd.func20, Tryd.ntmps20
    go_wp2
    refine wp_loop_rounds 1 ?_
    rw [rounds_succ]
    go_wp2
    go_ret
    exact ⟨rfl, rfl⟩
  | cons c r =>
    cases r with
    | nil =>
      have h1 : s.size = 1 := hz.symm
      have h1i : (s.size : Int) = 1 := by omega
      have hm1 : min (2 : Int) 1 = 1 := by decide
      have k1 := lx_slice_to s 1 1 rfl (by omega)
      rw [← hX1] at k1
      have HXL := Lib.hid (show X1.toList = [c] by rw [hx1, ByteArray.toList_eq]; rfl)
      have HY := Lib.hid (show Lx.sig1 c = true → X1 = ⟨([c].take (Lx.sigLen [c])).toArray⟩ from fun h => by rw [hx1, show Lx.sigLen [c] = 1 from if_pos h])
      have HN := Lib.hid (show Lx.sig1 c = false → ({ data := #[] } : ByteArray) = ⟨([c].take (Lx.sigLen [c])).toArray⟩ from fun h => by rw [show Lx.sigLen [c] = 0 from if_neg (by rw [h]; decide)]; rfl)
      have g1 : (X1.toList == [46, 46]) = false := by rw [HXL.out]; simp
      have g2 : (X1.toList == [33, 61]) = false := by rw [HXL.out]; simp
      have g3 : (X1.toList == [60, 61]) = false := by rw [HXL.out]; simp
      have g4 : (X1.toList == [62, 61]) = false := by rw [HXL.out]; simp
      clear hx1 hx2 hX1 hX2 hz
      go_enter Tryd.func20, Tryd.ntmps20
      go_wp2
      refine wp_loop_rounds 2 ?_
      rw [rounds_succ]
      go_wp2
      all_goals first
        | (go_ret
           first
          | exact ⟨str_eqL (HY.out (sig1_of HXL.out (k := 40) (by assumption) (by decide))), rfl⟩
          | exact ⟨str_eqL (HY.out (sig1_of HXL.out (k := 41) (by assumption) (by decide))), rfl⟩
          | exact ⟨str_eqL (HY.out (sig1_of HXL.out (k := 91) (by assumption) (by decide))), rfl⟩
          | exact ⟨str_eqL (HY.out (sig1_of HXL.out (k := 93) (by assumption) (by decide))), rfl⟩
          | exact ⟨str_eqL (HY.out (sig1_of HXL.out (k := 123) (by assumption) (by decide))), rfl⟩
          | exact ⟨str_eqL (HY.out (sig1_of HXL.out (k := 125) (by assumption) (by decide))), rfl⟩
          | exact ⟨str_eqL (HY.out (sig1_of HXL.out (k := 44) (by assumption) (by decide))), rfl⟩
          | exact ⟨str_eqL (HY.out (sig1_of HXL.out (k := 58) (by assumption) (by decide))), rfl⟩
          | exact ⟨str_eqL (HY.out (sig1_of HXL.out (k := 46) (by assumption) (by decide))), rfl⟩
          | exact ⟨str_eqL (HY.out (sig1_of HXL.out (k := 43) (by assumption) (by decide))), rfl⟩
          | exact ⟨str_eqL (HY.out (sig1_of HXL.out (k := 45) (by assumption) (by decide))), rfl⟩
          | exact ⟨str_eqL (HY.out (sig1_of HXL.out (k := 42) (by assumption) (by decide))), rfl⟩
          | exact ⟨str_eqL (HY.out (sig1_of HXL.out (k := 47) (by assumption) (by decide))), rfl⟩
          | exact ⟨str_eqL (HY.out (sig1_of HXL.out (k := 61) (by assumption) (by decide))), rfl⟩
          | exact ⟨str_eqL (HY.out (sig1_of HXL.out (k := 60) (by assumption) (by decide))), rfl⟩
          | exact ⟨str_eqL (HY.out (sig1_of HXL.out (k := 62) (by assumption) (by decide))), rfl⟩)
        | (exfalso; simp_all only [reduceCtorEq]; done)
        | (rw [rounds_succ]
           go_wp2
           go_ret
           exact ⟨str_eqL (HN.out (sig1_not HXL.out (fun k hk => by simp only [List.mem_cons, List.not_mem_nil, or_false] at hk; rcases hk with rfl | rfl | rfl | rfl | rfl | rfl | rfl | rfl | rfl | rfl | rfl | rfl | rfl | rfl | rfl | rfl <;> assumption))), rfl⟩)
    | cons d r =>
      have hz2 : r.length + 1 + 1 = s.size := hz
      have h2i : (2 : Int) ≤ (s.size : Int) := by omega
      have hmin : min (2 : Int) (s.size : Int) = 2 := by omega
      have k1 := lx_slice_to s 1 1 rfl (by omega)
      have k2 := lx_slice_to s 2 2 rfl (by omega)
      rw [← hX1] at k1
      rw [← hX2] at k2
      have HXL1 := Lib.hid (show X1.toList = [c] by rw [hx1, ByteArray.toList_eq]; rfl)
      have HXL2 := Lib.hid (show X2.toList = [c, d] by rw [hx2, ByteArray.toList_eq]; rfl)
      have HY2 := Lib.hid (show Lx.sig2 c d = true → X2 = ⟨((c :: d :: r).take (Lx.sigLen (c :: d :: r))).toArray⟩ from fun h => by rw [hx2, show Lx.sigLen (c :: d :: r) = 2 from if_pos h])
      have HY1 := Lib.hid (show Lx.sig2 c d = false → Lx.sig1 c = true → X1 = ⟨((c :: d :: r).take (Lx.sigLen (c :: d :: r))).toArray⟩ from fun h h' => by rw [hx1, show Lx.sigLen (c :: d :: r) = 1 from (if_neg (by rw [h]; decide)).trans (if_pos h')])
      have HN := Lib.hid (show Lx.sig2 c d = false → Lx.sig1 c = false → ({ data := #[] } : ByteArray) = ⟨((c :: d :: r).take (Lx.sigLen (c :: d :: r))).toArray⟩ from fun h h' => by rw [show Lx.sigLen (c :: d :: r) = 0 from (if_neg (by rw [h]; decide)).trans (if_neg (by rw [h']; decide))]; rfl)
      have g1 : (X1.toList == [46, 46]) = false := by rw [HXL1.out]; simp
      have g2 : (X1.toList == [33, 61]) = false := by rw [HXL1.out]; simp
      have g3 : (X1.toList == [60, 61]) = false := by rw [HXL1.out]; simp
      have g4 : (X1.toList == [62, 61]) = false := by rw [HXL1.out]; simp
      have e40 : (X2.toList == [40]) = false := by rw [HXL2.out]; simp
      have e41 : (X2.toList == [41]) = false := by rw [HXL2.out]; simp
      have e91 : (X2.toList == [91]) = false := by rw [HXL2.out]; simp
      have e93 : (X2.toList == [93]) = false := by rw [HXL2.out]; simp
      have e123 : (X2.toList == [123]) = false := by rw [HXL2.out]; simp
      have e125 : (X2.toList == [125]) = false := by rw [HXL2.out]; simp
      have e44 : (X2.toList == [44]) = false := by rw [HXL2.out]; simp
      have e58 : (X2.toList == [58]) = false := by rw [HXL2.out]; simp
      have e46 : (X2.toList == [46]) = false := by rw [HXL2.out]; simp
      have e43 : (X2.toList == [43]) = false := by rw [HXL2.out]; simp
      have e45 : (X2.toList == [45]) = false := by rw [HXL2.out]; simp
      have e42 : (X2.toList == [42]) = false := by rw [HXL2.out]; simp
      have e47 : (X2.toList == [47]) = false := by rw [HXL2.out]; simp
      have e61 : (X2.toList == [61]) = false := by rw [HXL2.out]; simp
      have e60 : (X2.toList == [60]) = false := by rw [HXL2.out]; simp
      have e62 : (X2.toList == [62]) = false := by rw [HXL2.out]; simp
      clear hx1 hx2 hX1 hX2 hz hz2
      go_enter Tryd.func20, Tryd.ntmps20
      go_wp2
      refine wp_loop_rounds 3 ?_
      rw [rounds_succ]
      go_wp2
      all_goals first
        | (go_ret
           first
             | exact ⟨str_eqL (HY2.out (sig2_of HXL2.out (k := 46) (j := 46) (by assumption) (by decide))), rfl⟩
             | exact ⟨str_eqL (HY2.out (sig2_of HXL2.out (k := 33) (j := 61) (by assumption) (by decide))), rfl⟩
             | exact ⟨str_eqL (HY2.out (sig2_of HXL2.out (k := 60) (j := 61) (by assumption) (by decide))), rfl⟩
             | exact ⟨str_eqL (HY2.out (sig2_of HXL2.out (k := 62) (j := 61) (by assumption) (by decide))), rfl⟩)
        | (exfalso; simp_all only [reduceCtorEq]; done)
        | (have HS2 := Lib.hid (sig2_not HXL2.out (by assumption) (by assumption) (by assumption) (by assumption))
           rw [rounds_succ]
           go_wp2
           all_goals first
             | (go_ret
                first
                   | exact ⟨str_eqL (HY1.out HS2.out (sig1_of HXL1.out (k := 40) (by assumption) (by decide))), rfl⟩
                   | exact ⟨str_eqL (HY1.out HS2.out (sig1_of HXL1.out (k := 41) (by assumption) (by decide))), rfl⟩
                   | exact ⟨str_eqL (HY1.out HS2.out (sig1_of HXL1.out (k := 91) (by assumption) (by decide))), rfl⟩
                   | exact ⟨str_eqL (HY1.out HS2.out (sig1_of HXL1.out (k := 93) (by assumption) (by decide))), rfl⟩
                   | exact ⟨str_eqL (HY1.out HS2.out (sig1_of HXL1.out (k := 123) (by assumption) (by decide))), rfl⟩
                   | exact ⟨str_eqL (HY1.out HS2.out (sig1_of HXL1.out (k := 125) (by assumption) (by decide))), rfl⟩
                   | exact ⟨str_eqL (HY1.out HS2.out (sig1_of HXL1.out (k := 44) (by assumption) (by decide))), rfl⟩
                   | exact ⟨str_eqL (HY1.out HS2.out (sig1_of HXL1.out (k := 58) (by assumption) (by decide))), rfl⟩
                   | exact ⟨str_eqL (HY1.out HS2.out (sig1_of HXL1.out (k := 46) (by assumption) (by decide))), rfl⟩
                   | exact ⟨str_eqL (HY1.out HS2.out (sig1_of HXL1.out (k := 43) (by assumption) (by decide))), rfl⟩
                   | exact ⟨str_eqL (HY1.out HS2.out (sig1_of HXL1.out (k := 45) (by assumption) (by decide))), rfl⟩
                   | exact ⟨str_eqL (HY1.out HS2.out (sig1_of HXL1.out (k := 42) (by assumption) (by decide))), rfl⟩
                   | exact ⟨str_eqL (HY1.out HS2.out (sig1_of HXL1.out (k := 47) (by assumption) (by decide))), rfl⟩
                   | exact ⟨str_eqL (HY1.out HS2.out (sig1_of HXL1.out (k := 61) (by assumption) (by decide))), rfl⟩
                   | exact ⟨str_eqL (HY1.out HS2.out (sig1_of HXL1.out (k := 60) (by assumption) (by decide))), rfl⟩
                   | exact ⟨str_eqL (HY1.out HS2.out (sig1_of HXL1.out (k := 62) (by assumption) (by decide))), rfl⟩)
             | (exfalso; simp_all only [reduceCtorEq]; done)
             | (rw [rounds_succ]
                go_wp2
                go_ret
                exact ⟨str_eqL (HN.out HS2.out (sig1_not HXL1.out (fun k hk => by simp only [List.mem_cons, List.not_mem_nil, or_false] at hk; rcases hk with rfl | rfl | rfl | rfl | rfl | rfl | rfl | rfl | rfl | rfl | rfl | rfl | rfl | rfl | rfl | rfl <;> assumption))), rfl⟩))
end Go.Proofs.YtonajmngchfjeaaDoor
