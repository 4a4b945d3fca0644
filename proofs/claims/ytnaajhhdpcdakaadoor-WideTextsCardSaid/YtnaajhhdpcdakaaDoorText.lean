/-
  Numbers as texts: which bytes are one, and the number that they say.
-/
import Derived.Test.YtnaajhhdpcdakaaDoorRefO
namespace Go.Proofs.YtnaajhhdpcdakaaDoor
open Go.RowKit Num Word
attribute [local go_sem] setCell_drewN cell?_ext frozen?_ext shape?_ext setCell_ext lt_1' ne_1' en_1' le_1' lt_2' ne_2' en_2' le_2' lt_3' ne_3' en_3' le_3' lt_4' ne_4' en_4' le_4' lt_5' ne_5' en_5' le_5' lt_6' ne_6' en_6' le_6' lt_7' ne_7' en_7' le_7' lt_8' ne_8' en_8' le_8' lt_9' ne_9' en_9' le_9' lt_10' ne_10' en_10' le_10' lt_11' ne_11' en_11' le_11' lt_12' ne_12' en_12' le_12'

/-- is it a digit's byte? -/
def isDg (c : UInt8) : Bool := decide (48 ≤ c.toNat ∧ c.toNat ≤ 57)
/-- one digit or more, without a nought ahead -/
def isNumL (l : List UInt8) : Bool := match l with
  | [] => false
  | c :: r => l.all isDg && (r.isEmpty || decide (c ≠ 48))
/-- the digits, the least first -/
def digL (l : List UInt8) : List Nat := l.reverse.map fun c => c.toNat - 48
/-- the number of the bytes, the first digit first -/
def valL (l : List UInt8) : Nat := lv (digL l)
theorem valL_snoc (l : List UInt8) (c : UInt8) : valL (l ++ [c]) = 10 * valL l + (c.toNat - 48) := by
  unfold valL digL
  rw [List.reverse_append]
  simp only [List.reverse_cons, List.reverse_nil, List.nil_append, List.singleton_append, List.map_cons, lv]
  omega
theorem valL_le (l m : List UInt8) : valL l ≤ valL (l ++ m) := by
  unfold valL digL
  rw [List.reverse_append, List.map_append, lv_append]
  exact Nat.le_trans (Nat.le_mul_of_pos_left _ (Nat.pow_pos (by decide))) (Nat.le_add_left _ _)
theorem digL_dig {l : List UInt8} (h : l.all isDg = true) : Dig (digL l) := by
  intro d hd
  obtain ⟨c, hc, rfl⟩ := List.mem_map.1 hd
  have := List.all_eq_true.1 h c (List.mem_reverse.1 hc)
  simp [isDg] at this
  omega
theorem isDg_no {c : UInt8} (h : isDg c = false) : c.toNat < 48 ∨ (48 ≤ c.toNat ∧ 57 < c.toNat) := by
  simp [isDg] at h; omega
theorem isDg_yes {c : UInt8} (h : isDg c = true) : 48 ≤ c.toNat ∧ c.toNat ≤ 57 := by
  simpa [isDg] using h
theorem all_take {l : List UInt8} {k : Nat} (h : k < l.length) : (l.take (k + 1)).all isDg = ((l.take k).all isDg && isDg l[k]) := by
  rw [List.take_succ_eq_append_getElem h, List.all_append]; simp
set_option maxRecDepth 100000 in
set_option maxHeartbeats 8000000 in
theorem isNumber_any (s : ByteArray) (hs : s.size ≤ 140737488351232) (w : World) :
    Calls Tryd.prog 13 #[.string s] w fun e w' => e = .returned (.bool (isNumL s.data.toList)) ∧ Below w.heap.size w w' := by
  have hsz : s.data.toList.length = s.size := rfl
  by_cases h0 : s.size = 0
  · have he : s.toList.isEmpty = true := by
      rw [ByteArray.toList_eq, List.eq_nil_of_length_eq_zero (show s.data.toList.length = 0 from h0)]; rfl
    have HN := Lib.hid (show isNumL s.data.toList = false by rw [List.eq_nil_of_length_eq_zero (show s.data.toList.length = 0 from h0)]; rfl)
    clear h0 hsz
    go_enter Tryd.func13, Tryd.ntmps13
    go_wp2
    go_ret
    exact ⟨by rw [HN.out]; rfl, by (repeat' (first | (with_reducible exact Below.refl _ _) | (with_reducible assumption) | (with_reducible refine Below.alloc ?_ ?_ _) | (with_reducible refine below_drewN ?_ _) | (with_reducible refine below_drew ?_) | (with_reducible refine below_ext ?_ ?_ _ _) | (with_reducible refine Below.setCell ?_ ?_ _) | (simp; done) | (simp; omega) | omega))⟩
  have h00 : 0 < s.size := by omega
  have hne : s.toList.isEmpty = false := by
    rw [ByteArray.toList_eq]
    cases hl : s.data.toList with
    | nil => rw [hl] at hsz; exact absurd hsz.symm h0
    | cons => rfl
  have hd : s.data.toList = s[0] :: s.data.toList.drop 1 := by
    have := List.drop_eq_getElem_cons (l := s.data.toList) (i := 0) (by omega)
    rwa [List.drop_zero] at this
  by_cases hz : 1 < s.size ∧ s[0] = 48
  · obtain ⟨h1, h48⟩ := hz
    have h1i : (1 : Int) < s.size := by omega
    have e48 : ((s[0].toNat : Nat) : Int) = 48 := by rw [h48]; rfl
    have HN := Lib.hid (show isNumL s.data.toList = false by
      rw [hd, isNumL, h48]
      have : (s.data.toList.drop 1).isEmpty = false := by
        cases hl : s.data.toList.drop 1 with
        | nil => have := congrArg List.length hl; simp at this; omega
        | cons => rfl
      rw [this]; simp)
    clear h48 hd hsz
    go_enter Tryd.func13, Tryd.ntmps13
    go_wp2
    go_ret
    exact ⟨by rw [HN.out]; rfl, by (repeat' (first | (with_reducible exact Below.refl _ _) | (with_reducible assumption) | (with_reducible refine Below.alloc ?_ ?_ _) | (with_reducible refine below_drewN ?_ _) | (with_reducible refine below_drew ?_) | (with_reducible refine below_ext ?_ ?_ _ _) | (with_reducible refine Below.setCell ?_ ?_ _) | (simp; done) | (simp; omega) | omega))⟩
  have HALL := Lib.hid (show isNumL s.data.toList = s.data.toList.all isDg by
    have e : ((s.data.toList.drop 1).isEmpty || decide (s[0] ≠ 48)) = true := by
      by_cases h1 : 1 < s.size
      · rw [decide_eq_true (show s[0] ≠ 48 from fun h => hz ⟨h1, h⟩), Bool.or_true]
      · have : s.data.toList.drop 1 = [] := List.drop_eq_nil_of_le (by omega)
        rw [this]; rfl
    conv => lhs; rw [hd, isNumL, e, Bool.and_true]
    rw [← hd])
  have hcase : s.size = 1 ∨ (1 < s.size ∧ ¬ s[0] = 48) := by
    by_cases h1 : 1 < s.size
    · exact .inr ⟨h1, fun h => hz ⟨h1, h⟩⟩
    · exact .inl (by omega)
  clear hz hd
  have fin : ∀ (X : Bool), X = (s.data.toList.all isDg) → X = isNumL s.data.toList := fun X h => h.trans HALL.out.symm
  rcases hcase with h1 | ⟨h1, h48⟩
  · have h1i : ¬ (1 : Int) < s.size := by omega
    go_enter Tryd.func13, Tryd.ntmps13
    go_wp2
    go_loopw [3] (fun i wr => ∃ k : Nat, i = .int .i64 k ∧ k ≤ s.size ∧ Hid ((s.data.toList.take k).all isDg = true) ∧ Hid (Below w.heap.size w wr)) (fun i _ => s.size - (intOf i).toNat)
    case atStart => exact ⟨0, rfl, Nat.zero_le _, Lib.hid rfl, Lib.hid (by (repeat' (first | (with_reducible exact Below.refl _ _) | (with_reducible assumption) | (with_reducible refine Below.alloc ?_ ?_ _) | (with_reducible refine below_drewN ?_ _) | (with_reducible refine below_drew ?_) | (with_reducible refine below_ext ?_ ?_ _ _) | (with_reducible refine Below.setCell ?_ ?_ _) | (simp; done) | (simp; omega) | omega)))⟩
    case round =>
      obtain ⟨k, rfl, hk, hall, hbel⟩ := hrel
      by_cases hlt : k < s.size
      · have hlti : (k : Int) < s.size := by omega
        have hst := all_take (l := s.data.toList) (k := k) (by omega)
        have hgt : s.data.toList[k]'(by omega) = s[k] := rfl
        rw [hgt, hall.out, Bool.true_and] at hst
        cases hdg : isDg s[k] with
        | false =>
          have HF := Lib.hid (show (false : Bool) = isNumL s.data.toList from fin _ (by
            have hm : s[k] ∈ s.data.toList := by rw [← hgt]; exact List.getElem_mem _
            exact (Bool.eq_false_iff.2 (fun h => by have := List.all_eq_true.1 h _ hm; rw [hdg] at this; cases this)).symm))
          rcases isDg_no hdg with hb | ⟨hb, hb2⟩
          · have hbi : (s[k].toNat : Int) < 48 := by omega
            clear hst hdg hgt fin
            go_wp2
            go_ret
            exact ⟨by rw [← HF.out]; rfl, hbel.out⟩
          · have hbi : ¬ (s[k].toNat : Int) < 48 := by omega
            have hb2i : (57 : Int) < s[k].toNat := by omega
            clear hst hdg hgt fin
            go_wp2
            go_ret
            exact ⟨by rw [← HF.out]; rfl, hbel.out⟩
        | true =>
          rw [hdg] at hst
          obtain ⟨hb, hb2⟩ := isDg_yes hdg
          have hbi : ¬ (s[k].toNat : Int) < 48 := by omega
          have hb2i : ¬ (57 : Int) < s[k].toNat := by omega
          have HS := Lib.hid hst
          clear hst hdg hgt
          go_wp2
          go_roundw
          case rel => exact ⟨k + 1, by go_num, by omega, HS, hbel⟩
          case measure => simp only [intOf]; omega
      · obtain rfl : k = s.size := by omega
        have HF := Lib.hid (show (true : Bool) = isNumL s.data.toList from fin _ (by have := hall.out; rw [List.take_of_length_le (by omega)] at this; exact this.symm))
        clear fin
        go_wp2
        go_ret
        exact ⟨by rw [← HF.out]; rfl, hbel.out⟩
  · have h1i : (1 : Int) < s.size := by omega
    have g48 : ((s[0].toNat : Int) == 48) = false := beq_eq_false_iff_ne.2 (fun e => h48 (UInt8.toNat_inj.1 (by have : (48 : UInt8).toNat = 48 := rfl; omega)))
    clear h48
    go_enter Tryd.func13, Tryd.ntmps13
    go_wp2
    go_loopw [3] (fun i wr => ∃ k : Nat, i = .int .i64 k ∧ k ≤ s.size ∧ Hid ((s.data.toList.take k).all isDg = true) ∧ Hid (Below w.heap.size w wr)) (fun i _ => s.size - (intOf i).toNat)
    case atStart => exact ⟨0, rfl, Nat.zero_le _, Lib.hid rfl, Lib.hid (by (repeat' (first | (with_reducible exact Below.refl _ _) | (with_reducible assumption) | (with_reducible refine Below.alloc ?_ ?_ _) | (with_reducible refine below_drewN ?_ _) | (with_reducible refine below_drew ?_) | (with_reducible refine below_ext ?_ ?_ _ _) | (with_reducible refine Below.setCell ?_ ?_ _) | (simp; done) | (simp; omega) | omega)))⟩
    case round =>
      obtain ⟨k, rfl, hk, hall, hbel⟩ := hrel
      by_cases hlt : k < s.size
      · have hlti : (k : Int) < s.size := by omega
        have hst := all_take (l := s.data.toList) (k := k) (by omega)
        have hgt : s.data.toList[k]'(by omega) = s[k] := rfl
        rw [hgt, hall.out, Bool.true_and] at hst
        cases hdg : isDg s[k] with
        | false =>
          have HF := Lib.hid (show (false : Bool) = isNumL s.data.toList from fin _ (by
            have hm : s[k] ∈ s.data.toList := by rw [← hgt]; exact List.getElem_mem _
            exact (Bool.eq_false_iff.2 (fun h => by have := List.all_eq_true.1 h _ hm; rw [hdg] at this; cases this)).symm))
          rcases isDg_no hdg with hb | ⟨hb, hb2⟩
          · have hbi : (s[k].toNat : Int) < 48 := by omega
            clear hst hdg hgt fin
            go_wp2
            go_ret
            exact ⟨by rw [← HF.out]; rfl, hbel.out⟩
          · have hbi : ¬ (s[k].toNat : Int) < 48 := by omega
            have hb2i : (57 : Int) < s[k].toNat := by omega
            clear hst hdg hgt fin
            go_wp2
            go_ret
            exact ⟨by rw [← HF.out]; rfl, hbel.out⟩
        | true =>
          rw [hdg] at hst
          obtain ⟨hb, hb2⟩ := isDg_yes hdg
          have hbi : ¬ (s[k].toNat : Int) < 48 := by omega
          have hb2i : ¬ (57 : Int) < s[k].toNat := by omega
          have HS := Lib.hid hst
          clear hst hdg hgt
          go_wp2
          go_roundw
          case rel => exact ⟨k + 1, by go_num, by omega, HS, hbel⟩
          case measure => simp only [intOf]; omega
      · obtain rfl : k = s.size := by omega
        have HF := Lib.hid (show (true : Bool) = isNumL s.data.toList from fin _ (by have := hall.out; rw [List.take_of_length_le (by omega)] at this; exact this.symm))
        clear fin
        go_wp2
        go_ret
        exact ⟨by rw [← HF.out]; rfl, hbel.out⟩
end Go.Proofs.YtnaajhhdpcdakaaDoor
