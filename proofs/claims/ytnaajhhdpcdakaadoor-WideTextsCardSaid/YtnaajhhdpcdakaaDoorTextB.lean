/-
  The document's reading of a number, and its telling of one.
-/
import Derived.Test.YtnaajhhdpcdakaaDoorText
import Derived.Test.YtnaajhhdpcdakaaDoorTxtM
import Derived.Test.YtnaajhhdpcdakaaDoorRefJ
namespace Go.Proofs.YtnaajhhdpcdakaaDoor
open Go.RowKit Num Word
open Lib (decDigits)
attribute [local go_sem] setCell_drewN cell?_ext frozen?_ext shape?_ext setCell_ext lt_1' ne_1' en_1' le_1' lt_2' ne_2' en_2' le_2' lt_3' ne_3' en_3' le_3' lt_4' ne_4' en_4' le_4' lt_5' ne_5' en_5' le_5' lt_6' ne_6' en_6' le_6' lt_7' ne_7' en_7' le_7' lt_8' ne_8' en_8' le_8' lt_9' ne_9' en_9' le_9' lt_10' ne_10' en_10' le_10' lt_11' ne_11' en_11' le_11' lt_12' ne_12' en_12' le_12'

/-- what a text is read as: the number, and the error -/
def rdN (l : List UInt8) : Nat := if isNumL l = true then (if 39 < l.length then 0 else nw (valL l)) else 0
def rdE (l : List UInt8) : Int := if isNumL l = true then (if 39 < l.length then 3 else ne (valL l)) else 5
theorem rd_no {l : List UInt8} (h : isNumL l = false) : rdN l = 0 ∧ rdE l = 5 := by unfold rdN rdE; rw [h]; exact ⟨rfl, rfl⟩
theorem rd_long {l : List UInt8} (h : isNumL l = true) (h2 : 39 < l.length) : rdN l = 0 ∧ rdE l = 3 := by unfold rdN rdE; rw [h, if_pos rfl, if_pos rfl, if_pos h2, if_pos h2]; exact ⟨rfl, rfl⟩
theorem rd_yes {l : List UInt8} (h : isNumL l = true) (h2 : ¬ 39 < l.length) : rdN l = nw (valL l) ∧ rdE l = ne (valL l) := by unfold rdN rdE; rw [h, if_pos rfl, if_pos rfl, if_neg h2, if_neg h2]; exact ⟨rfl, rfl⟩
theorem valL_len {l : List UInt8} (h : l.all isDg = true) : (dg (valL l)).length ≤ l.length := dg_len_le.2 (by
  have := lv_lt (digL_dig h)
  unfold valL
  rwa [show (digL l).length = l.length by simp [digL]] at this)
theorem digL_drop (l : List UInt8) (k : Nat) (h : k < l.length) : digL (l.drop k) = digL (l.drop (k + 1)) ++ [l[k].toNat - 48] := by
  unfold digL
  rw [List.drop_eq_getElem_cons h, List.reverse_cons, List.map_append]; rfl
theorem digL_len (l : List UInt8) : (digL l).length = l.length := by simp [digL]
/-- which way the first tests go, for what is no number by its first sign alone -/
theorem num_ways (s : ByteArray) (h0 : 0 < s.size) : (1 < s.size ∧ s[0] = 48 ∧ isNumL s.data.toList = false) ∨
    ((¬ 1 < s.size ∨ (1 < s.size ∧ ((s[0].toNat : Int) == 48) = false)) ∧ isNumL s.data.toList = s.data.toList.all isDg) := by
  have hsz : s.data.toList.length = s.size := rfl
  have hd : s.data.toList = s[0] :: s.data.toList.drop 1 := by
    have := List.drop_eq_getElem_cons (l := s.data.toList) (i := 0) (by omega)
    rwa [List.drop_zero] at this
  by_cases hz : 1 < s.size ∧ s[0] = 48
  · refine .inl ⟨hz.1, hz.2, ?_⟩
    rw [hd, isNumL, hz.2]
    have : (s.data.toList.drop 1).isEmpty = false := by
      cases hl : s.data.toList.drop 1 with
      | nil => have := congrArg List.length hl; simp at this; have := hz.1; omega
      | cons => rfl
    rw [this]; simp
  · refine .inr ⟨?_, ?_⟩
    · by_cases h1 : 1 < s.size
      · refine .inr ⟨h1, beq_eq_false_iff_ne.2 (fun e => hz ⟨h1, UInt8.toNat_inj.1 (by have : (48 : UInt8).toNat = 48 := rfl; omega)⟩)⟩
      · exact .inl h1
    · have e : ((s.data.toList.drop 1).isEmpty || decide (s[0] ≠ 48)) = true := by
        by_cases h1 : 1 < s.size
        · rw [decide_eq_true (show s[0] ≠ 48 from fun h => hz ⟨h1, h⟩), Bool.or_true]
        · have : s.data.toList.drop 1 = [] := List.drop_eq_nil_of_le (by omega)
          rw [this]; rfl
      conv => lhs; rw [hd, isNumL, e, Bool.and_true]
      rw [← hd]
theorem ret_rd {a b : Nat} {x y : Int} (h : a = b) (h2 : x = y) : Ending.returned (.tuple #[W a, .int .i64 x]) = .returned (.tuple #[W b, .int .i64 y]) := by rw [h, h2]
set_option maxRecDepth 100000 in
set_option maxHeartbeats 8000000 in
theorem docRead_any (s : ByteArray) (hs : s.size ≤ 140737488351232) (w : World) :
    Calls Tryd.prog 5 #[.string s] w fun e w' => e = .returned (.tuple #[W (rdN s.data.toList), .int .i64 (rdE s.data.toList)]) ∧ Below w.heap.size w w' := by
  have hsz : s.data.toList.length = s.size := rfl
  by_cases h0 : s.size = 0
  · have he : s.toList.isEmpty = true := by
      rw [ByteArray.toList_eq, List.eq_nil_of_length_eq_zero (show s.data.toList.length = 0 from h0)]; rfl
    have HN := Lib.hid (show isNumL s.data.toList = false by rw [List.eq_nil_of_length_eq_zero (show s.data.toList.length = 0 from h0)]; rfl)
    clear h0 hsz
    go_enter Tryd.func5, Tryd.ntmps5
    go_wp2
    go_returns
    exact ⟨ret_rd (rd_no HN.out).1.symm (rd_no HN.out).2.symm, by (repeat' (first | (with_reducible exact Below.refl _ _) | (with_reducible assumption) | (with_reducible refine Below.alloc ?_ ?_ _) | (with_reducible refine below_drewN ?_ _) | (with_reducible refine below_drew ?_) | (with_reducible refine below_ext ?_ ?_ _ _) | (with_reducible refine Below.setCell ?_ ?_ _) | (simp; done) | (simp; omega) | omega))⟩
  have h00 : 0 < s.size := by omega
  have hne : s.toList.isEmpty = false := by
    rw [ByteArray.toList_eq]
    cases hl : s.data.toList with
    | nil => rw [hl] at hsz; exact absurd hsz.symm h0
    | cons => rfl
  rcases num_ways s h00 with ⟨h1, h48, hN⟩ | ⟨hcase, hN⟩
  · have h1i : (1 : Int) < s.size := by omega
    have e48 : ((s[0].toNat : Nat) : Int) = 48 := by rw [h48]; rfl
    have HN := Lib.hid hN
    clear h48 hN hsz
    go_enter Tryd.func5, Tryd.ntmps5
    go_wp2
    go_returns
    exact ⟨ret_rd (rd_no HN.out).1.symm (rd_no HN.out).2.symm, by (repeat' (first | (with_reducible exact Below.refl _ _) | (with_reducible assumption) | (with_reducible refine Below.alloc ?_ ?_ _) | (with_reducible refine below_drewN ?_ _) | (with_reducible refine below_drew ?_) | (with_reducible refine below_ext ?_ ?_ _ _) | (with_reducible refine Below.setCell ?_ ?_ _) | (simp; done) | (simp; omega) | omega))⟩
  have HALL := Lib.hid hN
  clear hN
  have hcase' : ¬ (1 : Int) < s.size ∨ ((1 : Int) < s.size ∧ ((s[0].toNat : Int) == 48) = false) := by
    rcases hcase with h | ⟨h, h'⟩
    · exact .inl (by omega)
    · exact .inr ⟨by omega, h'⟩
  clear hcase
  rcases hcase' with h1i | ⟨h1i, g48⟩
  all_goals
    go_enter Tryd.func5, Tryd.ntmps5
    go_wp2
    go_loopw [4] (fun i wr => ∃ k : Nat, i = .int .i64 k ∧ k ≤ s.size ∧ Hid ((s.data.toList.take k).all isDg = true) ∧ wr = w.alloc (.cells #[.int .u64 0, .int .u64 0] 24)) (fun i _ => s.size - (intOf i).toNat)
    case atStart => exact ⟨0, rfl, Nat.zero_le _, Lib.hid rfl, rfl⟩
    case round =>
      obtain ⟨k, rfl, hk, hall, rfl⟩ := hrel
      by_cases hlt : k < s.size
      · have hlti : (k : Int) < s.size := by omega
        have hst := all_take (l := s.data.toList) (k := k) (by omega)
        have hgt : s.data.toList[k]'(by omega) = s[k] := rfl
        rw [hgt, hall.out, Bool.true_and] at hst
        cases hdg : isDg s[k] with
        | false =>
          have HF := Lib.hid (show isNumL s.data.toList = false from HALL.out.trans (by
            have hm : s[k] ∈ s.data.toList := by rw [← hgt]; exact List.getElem_mem _
            exact Bool.eq_false_iff.2 (fun h => by have := List.all_eq_true.1 h _ hm; rw [hdg] at this; cases this)))
          rcases isDg_no hdg with hb | ⟨hb, hb2⟩
          · have hbi : (s[k].toNat : Int) < 48 := by omega
            clear hst hdg hgt
            go_wp2
            go_returns
            exact ⟨ret_rd (rd_no HF.out).1.symm (rd_no HF.out).2.symm, by (repeat' (first | (with_reducible exact Below.refl _ _) | (with_reducible assumption) | (with_reducible refine Below.alloc ?_ ?_ _) | (with_reducible refine below_drewN ?_ _) | (with_reducible refine below_drew ?_) | (with_reducible refine below_ext ?_ ?_ _ _) | (with_reducible refine Below.setCell ?_ ?_ _) | (simp; done) | (simp; omega) | omega))⟩
          · have hbi : ¬ (s[k].toNat : Int) < 48 := by omega
            have hb2i : (57 : Int) < s[k].toNat := by omega
            clear hst hdg hgt
            go_wp2
            go_returns
            exact ⟨ret_rd (rd_no HF.out).1.symm (rd_no HF.out).2.symm, by (repeat' (first | (with_reducible exact Below.refl _ _) | (with_reducible assumption) | (with_reducible refine Below.alloc ?_ ?_ _) | (with_reducible refine below_drewN ?_ _) | (with_reducible refine below_drew ?_) | (with_reducible refine below_ext ?_ ?_ _ _) | (with_reducible refine Below.setCell ?_ ?_ _) | (simp; done) | (simp; omega) | omega))⟩
        | true =>
          rw [hdg] at hst
          obtain ⟨hb, hb2⟩ := isDg_yes hdg
          have hbi : ¬ (s[k].toNat : Int) < 48 := by omega
          have hb2i : ¬ (57 : Int) < s[k].toNat := by omega
          have HS := Lib.hid hst
          clear hst hdg hgt
          go_wp2
          go_roundw
          case rel => exact ⟨k + 1, by go_num, by omega, HS, trivial⟩
          case measure => simp only [intOf]; omega
      · obtain rfl : k = s.size := by omega
        have hF := hall.out
        rw [List.take_of_length_le (by omega)] at hF
        have HF := Lib.hid (show isNumL s.data.toList = true from HALL.out.trans hF)
        by_cases h39 : 39 < s.size
        · have h39i : (39 : Int) < s.size := by omega
          clear hF
          first
            | (exfalso; omega)
            | (go_wp2
               go_returns
               exact ⟨ret_rd (rd_long HF.out h39).1.symm (rd_long HF.out h39).2.symm, by (repeat' (first | (with_reducible exact Below.refl _ _) | (with_reducible assumption) | (with_reducible refine Below.alloc ?_ ?_ _) | (with_reducible refine below_drewN ?_ _) | (with_reducible refine below_drew ?_) | (with_reducible refine below_ext ?_ ?_ _ _) | (with_reducible refine Below.setCell ?_ ?_ _) | (simp; done) | (simp; omega) | omega))⟩)
        · have h39i : ¬ (39 : Int) < s.size := by omega
          have HD := Lib.hid hF
          have HL := Lib.hid (show (dg (valL s.data.toList)).length ≤ 39 from Nat.le_trans (valL_len hF) (by omega))
          have HC := Lib.hid (fun v w1 (hr : RdP (fun g => w.heap.size + 1 ≤ g) w1 v (digL s.data.toList)) => cut_any v (digL s.data.toList) (digL_dig hF) (by rw [digL_len]; omega) w1 hr)
          have HT := Lib.hid (fun v w1 (hr : Rd w1 v (dg (valL s.data.toList))) => told_any v (valL s.data.toList) (by have := HL.out; omega) w1 hr)
          have hlz : dg (lv (digL s.data.toList)) = dg (valL s.data.toList) := rfl
          rw [hlz] at HC
          clear hF hlz
          go_wp2
          go_loopw [5, 6] (fun d i wr => ∃ (m : Nat) (z : Int), i = .int .i64 z ∧ z + 1 = m ∧ m ≤ s.size ∧ Hid (IBuf (w.heap.size + 1) d (digL (s.data.toList.drop m)) (w.alloc (.cells #[.int .u64 0, .int .u64 0] 24)) wr)) (fun _ i _ => (intOf i + 1).toNat)
          case atStart => exact ⟨s.size, (s.size : Int) - 1, rfl, by omega, Nat.le_refl _, Lib.hid (by
            rw [List.drop_eq_nil_of_le (by omega)]
            have h := IBuf.nil (w.alloc (.cells #[.int .u64 0, .int .u64 0] 24)) (Below.refl _ _)
            rwa [World.size_alloc] at h)⟩
          case round =>
            obtain ⟨m, z, rfl, hz, hm, hbuf⟩ := hrel
            have hb := hbuf.out
            have hbel := hb.2.1
            have HBE := Lib.hid hbel
            clear hbel
            by_cases hm0 : m = 0
            · subst hm0
              obtain rfl : z = -1 := by omega
              have hr := hb.rd
              rw [List.drop_zero] at hr
              obtain ⟨os0, d0, rfl⟩ := ext_of_below (show Below (w.alloc (.cells #[.int .u64 0, .int .u64 0] 24)).heap.size (w.alloc (.cells #[.int .u64 0, .int .u64 0] 24)) wr by rw [World.size_alloc]; exact HBE.out)
              have HR := Lib.hid hr
              clear hr hb hbuf hlt hk
              go_wp2_with (first
                | (go_at_call 12; ((with_reducible refine (HC.out _ _ HR.out).mono ?_); rintro e w1 ⟨v1, rfl, r1, rfl⟩; have R1 := Lib.hid r1.rd; clear r1))
                | (go_at_call 11; ((with_reducible refine (HT.out _ _ R1.out).mono ?_); rintro e w1 ⟨rfl, hb1⟩; obtain ⟨osA, dA, rfl⟩ := ext_of_below hb1; clear hb1)))
              go_returns
              exact ⟨ret_rd (rd_yes HF.out h39).1.symm (rd_yes HF.out h39).2.symm, by (repeat' (first | (with_reducible exact Below.refl _ _) | (with_reducible assumption) | (with_reducible refine Below.alloc ?_ ?_ _) | (with_reducible refine below_drewN ?_ _) | (with_reducible refine below_drew ?_) | (with_reducible refine below_ext ?_ ?_ _ _) | (with_reducible refine Below.setCell ?_ ?_ _) | (simp; done) | (simp; omega) | omega))⟩
            obtain ⟨q, rfl⟩ : ∃ q, m = q + 1 := ⟨m - 1, by omega⟩
            obtain rfl : z = (q : Int) := by omega
            have hql : q < s.size := by omega
            have hgt : s.data.toList[q]'(by omega) = s[q] := rfl
            have hdg : isDg s[q] = true := List.all_eq_true.1 HD.out _ (by rw [← hgt]; exact List.getElem_mem _)
            obtain ⟨hb1, hb2⟩ := isDg_yes hdg
            have hdr := digL_drop s.data.toList q (by omega)
            rw [hgt] at hdr
            have HDR := Lib.hid hdr
            have hlen : (digL (s.data.toList.drop (q + 1))).length ≤ 39 := by rw [digL_len, List.length_drop]; omega
            have hb1i : (48 : Int) ≤ s[q].toNat := by omega
            have hb2i : (s[q].toNat : Int) ≤ 57 := by omega
            clear hdr hdg hgt hbuf hm0
            go_wp2_with (at_builtin; refine append_int rfl _ _ rfl rfl _ _ (s[q].toNat - 48) (by omega) (by assumption) rfl (by omega) ?_; intro _ _ hb)
            go_roundw
            case rel => exact ⟨q, (q : Int) - 1, rfl, by omega, by omega, Lib.hid (by rw [HDR.out]; exact hb)⟩
            case measure => simp only [intOf]; omega
end Go.Proofs.YtnaajhhdpcdakaaDoor
