/-
  Numbers as texts: which bytes are one, and the number that they say.
  Plain facts about numerals: how a numeral is split, what it is read as: no program stands in this text.
  The document's reading of a number, and its telling of one.
  wide.Read: the number that a numeral says.
-/
import Derived.Test.YtonajmngchfjeaaDoorBd
import Derived.Lib.ItoaNum
import Derived.Test.YtonajmngchfjeaaDoorBn
namespace Go.Proofs.YtonajmngchfjeaaDoor
open Go.RowKit Num Word
attribute [local go_sem] setCell_drewN cell?_ext frozen?_ext shape?_ext setCell_ext lt_1' ne_1' en_1' le_1' lt_2' ne_2' en_2' le_2' lt_3' ne_3' en_3' le_3' lt_4' ne_4' en_4' le_4' lt_5' ne_5' en_5' le_5' lt_6' ne_6' en_6' le_6' lt_7' ne_7' en_7' le_7' lt_8' ne_8' en_8' le_8' lt_9' ne_9' en_9' le_9' lt_10' ne_10' en_10' le_10' lt_11' ne_11' en_11' le_11' lt_12' ne_12' en_12' le_12'

/-- is it a digit's byte? -/
def isDg (c : UInt8) : Bool := decide (48 ≤ c.toNat ∧ c.toNat ≤ 57)
/-- one digit or more, without a nought ahead -/
def isNumL (l : List UInt8) : Bool := match l with
  | [] => false
  | c :: r => l.all isDg && (r.isEmpty || decide (c ≠ 48))
/-- the digits, the least first -/
def digL (l : List UInt8) : List Nat := l.reverse.map fun c => c.toNat - 48
/-- the number of the bytes, the first digit first -/
def valL (l : List UInt8) : Nat := lv (digL l)
theorem valL_snoc (l : List UInt8) (c : UInt8) : valL (l ++ [c]) = 10 * valL l + (c.toNat - 48) := by
  unfold valL digL
  rw [List.reverse_append]
  simp only [List.reverse_cons, List.reverse_nil, List.nil_append, List.singleton_append, List.map_cons, lv]
  omega
theorem valL_le (l m : List UInt8) : valL l ≤ valL (l ++ m) := by
  unfold valL digL
  rw [List.reverse_append, List.map_append, lv_append]
  exact Nat.le_trans (Nat.le_mul_of_pos_left _ (Nat.pow_pos (by decide))) (Nat.le_add_left _ _)
theorem digL_dig {l : List UInt8} (h : l.all isDg = true) : Dig (digL l) := by
  intro d hd
  obtain ⟨c, hc, rfl⟩ := List.mem_map.1 hd
  have := List.all_eq_true.1 h c (List.mem_reverse.1 hc)
  simp [isDg] at this
  omega
theorem isDg_no {c : UInt8} (h : isDg c = false) : c.toNat < 48 ∨ (48 ≤ c.toNat ∧ 57 < c.toNat) := by
  simp [isDg] at h; omega
theorem isDg_yes {c : UInt8} (h : isDg c = true) : 48 ≤ c.toNat ∧ c.toNat ≤ 57 := by
  simpa [isDg] using h
theorem all_take {l : List UInt8} {k : Nat} (h : k < l.length) : (l.take (k + 1)).all isDg = ((l.take k).all isDg && isDg l[k]) := by
  rw [List.take_succ_eq_append_getElem h, List.all_append]; simp
set_option maxRecDepth 100000 in
set_option maxHeartbeats 8000000 in
theorem isNumber_any (s : ByteArray) (hs : s.size ≤ 140737488351232) (w : World) :
    Calls Tryd.prog 45 #[.string s] w fun e w' => e = .returned (.bool (isNumL s.data.toList)) ∧ Below w.heap.size w w' := by
  have hsz : s.data.toList.length = s.size := rfl
  by_cases h0 : s.size = 0
  · have he : s.toList.isEmpty = true := by
      rw [ByteArray.toList_eq, List.eq_nil_of_length_eq_zero (show s.data.toList.length = 0 from h0)]; rfl
    have HN := Lib.hid (show isNumL s.data.toList = false by rw [List.eq_nil_of_length_eq_zero (show s.data.toList.length = 0 from h0)]; rfl)
    clear h0 hsz
    go_enter Tryd.func45, Tryd.ntmps45
    go_wp2
    go_ret
    exact ⟨by rw [HN.out]; rfl, by (repeat' (first | (with_reducible exact Below.refl _ _) | (with_reducible assumption) | (with_reducible refine Below.alloc ?_ ?_ _) | (with_reducible refine below_drewN ?_ _) | (with_reducible refine below_drew ?_) | (with_reducible refine below_ext ?_ ?_ _ _) | (with_reducible refine Below.setCell ?_ ?_ _) | (simp; done) | (simp; omega) | omega))⟩
  have h00 : 0 < s.size := by omega
  have hne : s.toList.isEmpty = false := by
    rw [ByteArray.toList_eq]
    cases hl : s.data.toList with
    | nil => rw [hl] at hsz; exact absurd hsz.symm h0
    | cons => rfl
  have hd : s.data.toList = s[0] :: s.data.toList.drop 1 := by
    have := List.drop_eq_getElem_cons (l := s.data.toList) (i := 0) (by omega)
    rwa [List.drop_zero] at this
  by_cases hz : 1 < s.size ∧ s[0] = 48
  · obtain ⟨h1, h48⟩ := hz
    have h1i : (1 : Int) < s.size := by omega
    have e48 : ((s[0].toNat : Nat) : Int) = 48 := by rw [h48]; rfl
    have HN := Lib.hid (show isNumL s.data.toList = false by
      rw [hd, isNumL, h48]
      have : (s.data.toList.drop 1).isEmpty = false := by
        cases hl : s.data.toList.drop 1 with
        | nil => have := congrArg List.length hl; simp at this; omega
        | cons => rfl
      rw [this]; simp)
    clear h48 hd hsz
    go_enter Tryd.func45, Tryd.ntmps45
    go_wp2
    go_ret
    exact ⟨by rw [HN.out]; rfl, by (repeat' (first | (with_reducible exact Below.refl _ _) | (with_reducible assumption) | (with_reducible refine Below.alloc ?_ ?_ _) | (with_reducible refine below_drewN ?_ _) | (with_reducible refine below_drew ?_) | (with_reducible refine below_ext ?_ ?_ _ _) | (with_reducible refine Below.setCell ?_ ?_ _) | (simp; done) | (simp; omega) | omega))⟩
  have HALL := Lib.hid (show isNumL s.data.toList = s.data.toList.all isDg by
    have e : ((s.data.toList.drop 1).isEmpty || decide (s[0] ≠ 48)) = true := by
      by_cases h1 : 1 < s.size
      · rw [decide_eq_true (show s[0] ≠ 48 from fun h => hz ⟨h1, h⟩), Bool.or_true]
      · have : s.data.toList.drop 1 = [] := List.drop_eq_nil_of_le (by omega)
        rw [this]; rfl
    conv => lhs; rw [hd, isNumL, e, Bool.and_true]
    rw [← hd])
  have hcase : s.size = 1 ∨ (1 < s.size ∧ ¬ s[0] = 48) := by
    by_cases h1 : 1 < s.size
    · exact .inr ⟨h1, fun h => hz ⟨h1, h⟩⟩
    · exact .inl (by omega)
  clear hz hd
  have fin : ∀ (X : Bool), X = (s.data.toList.all isDg) → X = isNumL s.data.toList := fun X h => h.trans HALL.out.symm
  rcases hcase with h1 | ⟨h1, h48⟩
  · have h1i : ¬ (1 : Int) < s.size := by omega
    go_enter Tryd.func45, Tryd.ntmps45
    go_wp2
    go_loopw [3] (fun i wr => ∃ k : Nat, i = .int .i64 k ∧ k ≤ s.size ∧ Hid ((s.data.toList.take k).all isDg = true) ∧ Hid (Below w.heap.size w wr)) (fun i _ => s.size - (intOf i).toNat)
    case atStart => exact ⟨0, rfl, Nat.zero_le _, Lib.hid rfl, Lib.hid (by (repeat' (first | (with_reducible exact Below.refl _ _) | (with_reducible assumption) | (with_reducible refine Below.alloc ?_ ?_ _) | (with_reducible refine below_drewN ?_ _) | (with_reducible refine below_drew ?_) | (with_reducible refine below_ext ?_ ?_ _ _) | (with_reducible refine Below.setCell ?_ ?_ _) | (simp; done) | (simp; omega) | omega)))⟩
    case round =>
      obtain ⟨k, rfl, hk, hall, hbel⟩ := hrel
      by_cases hlt : k < s.size
      · have hlti : (k : Int) < s.size := by omega
        have hst := all_take (l := s.data.toList) (k := k) (by omega)
        have hgt : s.data.toList[k]'(by omega) = s[k] := rfl
        rw [hgt, hall.out, Bool.true_and] at hst
        cases hdg : isDg s[k] with
        | false =>
          have HF := Lib.hid (show (false : Bool) = isNumL s.data.toList from fin _ (by
            have hm : s[k] ∈ s.data.toList := by rw [← hgt]; exact List.getElem_mem _
            exact (Bool.eq_false_iff.2 (fun h => by have := List.all_eq_true.1 h _ hm; rw [hdg] at this; cases this)).symm))
          rcases isDg_no hdg with hb | ⟨hb, hb2⟩
          · have hbi : (s[k].toNat : Int) < 48 := by omega
            clear hst hdg hgt fin
            go_wp2
            go_ret
            exact ⟨by rw [← HF.out]; rfl, hbel.out⟩
          · have hbi : ¬ (s[k].toNat : Int) < 48 := by omega
            have hb2i : (57 : Int) < s[k].toNat := by omega
            clear hst hdg hgt fin
            go_wp2
            go_ret
            exact ⟨by rw [← HF.out]; rfl, hbel.out⟩
        | true =>
          rw [hdg] at hst
          obtain ⟨hb, hb2⟩ := isDg_yes hdg
          have hbi : ¬ (s[k].toNat : Int) < 48 := by omega
          have hb2i : ¬ (57 : Int) < s[k].toNat := by omega
          have HS := Lib.hid hst
          clear hst hdg hgt
          go_wp2
          go_roundw
          case rel => exact ⟨k + 1, by go_num, by omega, HS, hbel⟩
          case measure => simp only [intOf]; omega
      · obtain rfl : k = s.size := by omega
        have HF := Lib.hid (show (true : Bool) = isNumL s.data.toList from fin _ (by have := hall.out; rw [List.take_of_length_le (by omega)] at this; exact this.symm))
        clear fin
        go_wp2
        go_ret
        exact ⟨by rw [← HF.out]; rfl, hbel.out⟩
  · have h1i : (1 : Int) < s.size := by omega
    have g48 : ((s[0].toNat : Int) == 48) = false := beq_eq_false_iff_ne.2 (fun e => h48 (UInt8.toNat_inj.1 (by have : (48 : UInt8).toNat = 48 := rfl; omega)))
    clear h48
    go_enter Tryd.func45, Tryd.ntmps45
    go_wp2
    go_loopw [3] (fun i wr => ∃ k : Nat, i = .int .i64 k ∧ k ≤ s.size ∧ Hid ((s.data.toList.take k).all isDg = true) ∧ Hid (Below w.heap.size w wr)) (fun i _ => s.size - (intOf i).toNat)
    case atStart => exact ⟨0, rfl, Nat.zero_le _, Lib.hid rfl, Lib.hid (by (repeat' (first | (with_reducible exact Below.refl _ _) | (with_reducible assumption) | (with_reducible refine Below.alloc ?_ ?_ _) | (with_reducible refine below_drewN ?_ _) | (with_reducible refine below_drew ?_) | (with_reducible refine below_ext ?_ ?_ _ _) | (with_reducible refine Below.setCell ?_ ?_ _) | (simp; done) | (simp; omega) | omega)))⟩
    case round =>
      obtain ⟨k, rfl, hk, hall, hbel⟩ := hrel
      by_cases hlt : k < s.size
      · have hlti : (k : Int) < s.size := by omega
        have hst := all_take (l := s.data.toList) (k := k) (by omega)
        have hgt : s.data.toList[k]'(by omega) = s[k] := rfl
        rw [hgt, hall.out, Bool.true_and] at hst
        cases hdg : isDg s[k] with
        | false =>
          have HF := Lib.hid (show (false : Bool) = isNumL s.data.toList from fin _ (by
            have hm : s[k] ∈ s.data.toList := by rw [← hgt]; exact List.getElem_mem _
            exact (Bool.eq_false_iff.2 (fun h => by have := List.all_eq_true.1 h _ hm; rw [hdg] at this; cases this)).symm))
          rcases isDg_no hdg with hb | ⟨hb, hb2⟩
          · have hbi : (s[k].toNat : Int) < 48 := by omega
            clear hst hdg hgt fin
            go_wp2
            go_ret
            exact ⟨by rw [← HF.out]; rfl, hbel.out⟩
          · have hbi : ¬ (s[k].toNat : Int) < 48 := by omega
            have hb2i : (57 : Int) < s[k].toNat := by omega
            clear hst hdg hgt fin
            go_wp2
            go_ret
            exact ⟨by rw [← HF.out]; rfl, hbel.out⟩
        | true =>
          rw [hdg] at hst
          obtain ⟨hb, hb2⟩ := isDg_yes hdg
          have hbi : ¬ (s[k].toNat : Int) < 48 := by omega
          have hb2i : ¬ (57 : Int) < s[k].toNat := by omega
          have HS := Lib.hid hst
          clear hst hdg hgt
          go_wp2
          go_roundw
          case rel => exact ⟨k + 1, by go_num, by omega, HS, hbel⟩
          case measure => simp only [intOf]; omega
      · obtain rfl : k = s.size := by omega
        have HF := Lib.hid (show (true : Bool) = isNumL s.data.toList from fin _ (by have := hall.out; rw [List.take_of_length_le (by omega)] at this; exact this.symm))
        clear fin
        go_wp2
        go_ret
        exact ⟨by rw [← HF.out]; rfl, hbel.out⟩
end Go.Proofs.YtonajmngchfjeaaDoor
namespace Go.Proofs.YtonajmngchfjeaaDoor
open Go.RowKit Num Word
open Lib (decDigits)

theorem dd_small {a : Nat} (h : a < 10) : decDigits a = [UInt8.ofNat (48 + a)] := by rw [decDigits, dif_pos h]
theorem dd_big {a : Nat} (h : ¬ a < 10) : decDigits a = decDigits (a / 10) ++ [UInt8.ofNat (48 + a % 10)] := by rw [decDigits, dif_neg h]
/-- k digits of a number, noughts ahead -/
def padT : Nat → Nat → List UInt8
  | 0, _ => []
  | k + 1, r => padT k (r / 10) ++ [UInt8.ofNat (48 + r % 10)]
theorem dd_split : ∀ (k q r : Nat), 0 < q → r < 10 ^ k → decDigits (q * 10 ^ k + r) = decDigits q ++ padT k r
  | 0, q, r, _, hr => by
    obtain rfl : r = 0 := by simpa using hr
    simp [padT]
  | k + 1, q, r, hq, hr => by
    rw [Nat.pow_succ] at hr
    have hp : 0 < 10 ^ k := Nat.pow_pos (by decide)
    have h1 : q * 10 ^ (k + 1) + r = (q * 10 ^ k) * 10 + r := by rw [Nat.pow_succ, Nat.mul_assoc]
    have h2 : 0 < q * 10 ^ k := Nat.mul_pos hq hp
    have h3 : (q * 10 ^ k * 10 + r) / 10 = q * 10 ^ k + r / 10 := by omega
    have h4 : (q * 10 ^ k * 10 + r) % 10 = r % 10 := by omega
    rw [h1, dd_big (by omega), h3, h4, dd_split k q (r / 10) hq (by omega), List.append_assoc]
    rfl
theorem padT_is : ∀ (k r : Nat), r < 10 ^ (k + 1) → padT (k + 1) r = List.replicate (k + 1 - (decDigits r).length) 48 ++ decDigits r
  | 0, r, h => by
    have h9 : r < 10 := by simpa using h
    rw [dd_small h9]
    show [] ++ [UInt8.ofNat (48 + r % 10)] = _
    rw [Nat.mod_eq_of_lt h9]; rfl
  | k + 1, r, h => by
    have ih := padT_is k (r / 10) (by rw [Nat.pow_succ] at h; omega)
    show padT (k + 1) (r / 10) ++ [UInt8.ofNat (48 + r % 10)] = _
    rw [ih]
    by_cases h9 : r < 10
    · have h0 : r / 10 = 0 := by omega
      rw [dd_small h9, h0, dd_small (by omega), Nat.mod_eq_of_lt h9]
      show (List.replicate (k + 1 - 1) 48 ++ [48]) ++ [UInt8.ofNat (48 + r)] = List.replicate (k + 1 + 1 - 1) 48 ++ [UInt8.ofNat (48 + r)]
      rw [show k + 1 + 1 - 1 = (k + 1 - 1) + 1 by omega, List.replicate_succ']
    · rw [dd_big h9, List.length_append, List.append_assoc]
      congr 2
      simp
theorem of48 {d : Nat} (h : d < 10) : (UInt8.ofNat (48 + d)).toNat = 48 + d := by
  rw [UInt8.toNat_ofNat']; omega
theorem dd_val (a : Nat) : valL (decDigits a) = a := by
  induction a using Nat.strongRecOn with
  | _ a ih =>
    by_cases h : a < 10
    · rw [dd_small h, show [UInt8.ofNat (48 + a)] = [] ++ [UInt8.ofNat (48 + a)] from rfl, valL_snoc, of48 h]
      show 10 * 0 + _ = _
      omega
    · rw [dd_big h, valL_snoc, ih (a / 10) (by omega), of48 (by omega)]; omega
theorem dd_all (a : Nat) : (decDigits a).all isDg = true := by
  induction a using Nat.strongRecOn with
  | _ a ih =>
    by_cases h : a < 10
    · rw [dd_small h]
      simp only [List.all_cons, List.all_nil, Bool.and_true]
      unfold isDg
      rw [of48 h]; simp; omega
    · rw [dd_big h, List.all_append, ih (a / 10) (by omega)]
      simp only [List.all_cons, List.all_nil, Bool.and_true, Bool.true_and]
      unfold isDg
      rw [of48 (by omega)]; simp; omega
theorem dd_head (a : Nat) (h0 : 0 < a) : ∃ c r, decDigits a = c :: r ∧ c ≠ 48 := by
  induction a using Nat.strongRecOn with
  | _ a ih =>
    by_cases h : a < 10
    · refine ⟨_, [], dd_small h, fun e => ?_⟩
      have := congrArg UInt8.toNat e
      rw [of48 h] at this
      have e48 : (48 : UInt8).toNat = 48 := rfl
      omega
    · obtain ⟨c, r, e, hc⟩ := ih (a / 10) (by omega) (by omega)
      exact ⟨c, r ++ [UInt8.ofNat (48 + a % 10)], by rw [dd_big h, e]; rfl, hc⟩
theorem dd_num (a : Nat) : isNumL (decDigits a) = true := by
  by_cases h : a < 10
  · have h2 := dd_all a
    rw [dd_small h] at h2 ⊢
    unfold isNumL
    simp only [h2, Bool.true_and]
    rfl
  · obtain ⟨c, r, e, hc⟩ := dd_head a (by omega)
    have h2 := dd_all a
    rw [e] at h2 ⊢
    unfold isNumL
    simp [h2, hc]
theorem dd_len : ∀ (k a : Nat), a < 10 ^ (k + 1) → (decDigits a).length ≤ k + 1
  | 0, a, h => by
    have h9 : a < 10 := by simpa using h
    rw [dd_small h9]; exact Nat.le_refl _
  | k + 1, a, h => by
    by_cases h9 : a < 10
    · rw [dd_small h9]; simp
    · have ih := dd_len k (a / 10) (by rw [Nat.pow_succ] at h; omega)
      rw [dd_big h9, List.length_append]
      show _ + 1 ≤ _
      omega
theorem dd_dg (a : Nat) (h0 : 0 < a) : decDigits a = (dg a).reverse.map fun d => UInt8.ofNat (48 + d) := by
  induction a using Nat.strongRecOn with
  | _ a ih =>
    rw [dg_pos h0, List.reverse_cons, List.map_append]
    by_cases h : a < 10
    · have h1 : a / 10 = 0 := by omega
      rw [dd_small h, h1, dg_zero, Nat.mod_eq_of_lt h]; rfl
    · rw [dd_big h, ih (a / 10) (by omega) (by omega)]; rfl
theorem padT_len : ∀ k r, (padT k r).length = k
  | 0, _ => rfl
  | k + 1, r => by show (padT k (r / 10) ++ [_]).length = _; rw [List.length_append, padT_len k]; rfl
theorem padT_app (a x : Nat) : ∀ (b y : Nat), y < 10 ^ b → padT (a + b) (x * 10 ^ b + y) = padT a x ++ padT b y
  | 0, y, h => by
    obtain rfl : y = 0 := by simpa using h
    simp [padT]
  | b + 1, y, h => by
    rw [Nat.pow_succ] at h
    have h1 : x * 10 ^ (b + 1) + y = (x * 10 ^ b) * 10 + y := by rw [Nat.pow_succ, Nat.mul_assoc]
    have h2 : (x * 10 ^ b * 10 + y) / 10 = x * 10 ^ b + y / 10 := by omega
    have h3 : (x * 10 ^ b * 10 + y) % 10 = y % 10 := by omega
    show padT (a + b) ((x * 10 ^ (b + 1) + y) / 10) ++ [UInt8.ofNat (48 + (x * 10 ^ (b + 1) + y) % 10)] = padT a x ++ (padT b (y / 10) ++ [UInt8.ofNat (48 + y % 10)])
    rw [h1, h2, h3, padT_app a x b (y / 10) (by omega), List.append_assoc]
end Go.Proofs.YtonajmngchfjeaaDoor
namespace Go.Proofs.YtonajmngchfjeaaDoor
open Go.RowKit Num Word
open Lib (decDigits)
attribute [local go_sem] setCell_drewN cell?_ext frozen?_ext shape?_ext setCell_ext lt_1' ne_1' en_1' le_1' lt_2' ne_2' en_2' le_2' lt_3' ne_3' en_3' le_3' lt_4' ne_4' en_4' le_4' lt_5' ne_5' en_5' le_5' lt_6' ne_6' en_6' le_6' lt_7' ne_7' en_7' le_7' lt_8' ne_8' en_8' le_8' lt_9' ne_9' en_9' le_9' lt_10' ne_10' en_10' le_10' lt_11' ne_11' en_11' le_11' lt_12' ne_12' en_12' le_12'

/-- what a text is read as: the number, and the error -/
def rdN (l : List UInt8) : Nat := if isNumL l = true then (if 39 < l.length then 0 else nw (valL l)) else 0
def rdE (l : List UInt8) : Int := if isNumL l = true then (if 39 < l.length then 3 else ne (valL l)) else 5
theorem rd_no {l : List UInt8} (h : isNumL l = false) : rdN l = 0 ∧ rdE l = 5 := by unfold rdN rdE; rw [h]; exact ⟨rfl, rfl⟩
theorem rd_long {l : List UInt8} (h : isNumL l = true) (h2 : 39 < l.length) : rdN l = 0 ∧ rdE l = 3 := by unfold rdN rdE; rw [h, if_pos rfl, if_pos rfl, if_pos h2, if_pos h2]; exact ⟨rfl, rfl⟩
theorem rd_yes {l : List UInt8} (h : isNumL l = true) (h2 : ¬ 39 < l.length) : rdN l = nw (valL l) ∧ rdE l = ne (valL l) := by unfold rdN rdE; rw [h, if_pos rfl, if_pos rfl, if_neg h2, if_neg h2]; exact ⟨rfl, rfl⟩
theorem valL_len {l : List UInt8} (h : l.all isDg = true) : (dg (valL l)).length ≤ l.length := dg_len_le.2 (by
  have := lv_lt (digL_dig h)
  unfold valL
  rwa [show (digL l).length = l.length by simp [digL]] at this)
theorem digL_drop (l : List UInt8) (k : Nat) (h : k < l.length) : digL (l.drop k) = digL (l.drop (k + 1)) ++ [l[k].toNat - 48] := by
  unfold digL
  rw [List.drop_eq_getElem_cons h, List.reverse_cons, List.map_append]; rfl
theorem digL_len (l : List UInt8) : (digL l).length = l.length := by simp [digL]
/-- which way the first tests go, for what is no number by its first sign alone -/
theorem num_ways (s : ByteArray) (h0 : 0 < s.size) : (1 < s.size ∧ s[0] = 48 ∧ isNumL s.data.toList = false) ∨
    ((¬ 1 < s.size ∨ (1 < s.size ∧ ((s[0].toNat : Int) == 48) = false)) ∧ isNumL s.data.toList = s.data.toList.all isDg) := by
  have hsz : s.data.toList.length = s.size := rfl
  have hd : s.data.toList = s[0] :: s.data.toList.drop 1 := by
    have := List.drop_eq_getElem_cons (l := s.data.toList) (i := 0) (by omega)
    rwa [List.drop_zero] at this
  by_cases hz : 1 < s.size ∧ s[0] = 48
  · refine .inl ⟨hz.1, hz.2, ?_⟩
    rw [hd, isNumL, hz.2]
    have : (s.data.toList.drop 1).isEmpty = false := by
      cases hl : s.data.toList.drop 1 with
      | nil => have := congrArg List.length hl; simp at this; have := hz.1; omega
      | cons => rfl
    rw [this]; simp
  · refine .inr ⟨?_, ?_⟩
    · by_cases h1 : 1 < s.size
      · refine .inr ⟨h1, beq_eq_false_iff_ne.2 (fun e => hz ⟨h1, UInt8.toNat_inj.1 (by have : (48 : UInt8).toNat = 48 := rfl; omega)⟩)⟩
      · exact .inl h1
    · have e : ((s.data.toList.drop 1).isEmpty || decide (s[0] ≠ 48)) = true := by
        by_cases h1 : 1 < s.size
        · rw [decide_eq_true (show s[0] ≠ 48 from fun h => hz ⟨h1, h⟩), Bool.or_true]
        · have : s.data.toList.drop 1 = [] := List.drop_eq_nil_of_le (by omega)
          rw [this]; rfl
      conv => lhs; rw [hd, isNumL, e, Bool.and_true]
      rw [← hd]
theorem ret_rd {a b : Nat} {x y : Int} (h : a = b) (h2 : x = y) : Ending.returned (.tuple #[W a, .int .i64 x]) = .returned (.tuple #[W b, .int .i64 y]) := by rw [h, h2]
end Go.Proofs.YtonajmngchfjeaaDoor
namespace Go.Proofs.YtonajmngchfjeaaDoor
open Go.RowKit Num Word
attribute [local go_sem] setCell_drewN cell?_ext frozen?_ext shape?_ext setCell_ext lt_1' ne_1' en_1' le_1' lt_2' ne_2' en_2' le_2' lt_3' ne_3' en_3' le_3' lt_4' ne_4' en_4' le_4' lt_5' ne_5' en_5' le_5' lt_6' ne_6' en_6' le_6' lt_7' ne_7' en_7' le_7' lt_8' ne_8' en_8' le_8' lt_9' ne_9' en_9' le_9' lt_10' ne_10' en_10' le_10' lt_11' ne_11' en_11' le_11' lt_12' ne_12' en_12' le_12'

theorem isNumber_yes (s : ByteArray) (hs : s.size ≤ 140737488351232) (h : isNumL s.data.toList = true) (w : World) :
    Calls Tryd.prog 45 #[.string s] w fun e w' => e = .returned (.bool true) ∧ Below w.heap.size w w' := by
  have := isNumber_any s hs w
  rwa [h] at this
theorem isNumber_not (s : ByteArray) (hs : s.size ≤ 140737488351232) (h : isNumL s.data.toList = false) (w : World) :
    Calls Tryd.prog 45 #[.string s] w fun e w' => e = .returned (.bool false) ∧ Below w.heap.size w w' := by
  have := isNumber_any s hs w
  rwa [h] at this
theorem mul_ten (v : Nat) (h : v < top2) (w : World) :
    Calls Tryd.prog 47 #[W v, .agg #[.int .u64 0, .int .u64 10]] w fun e w' => e = .returned (L (v * 10)) ∧ Below w.heap.size w w' :=
  mul_any v 10 h (by decide) w
theorem addDig (v d : Nat) (z : Int) (hz : z = (d : Int)) (h : v < top2) (hd : d < 10) (w : World) :
    Calls Tryd.prog 46 #[L (v * 10), .agg #[.int .u64 z, .int .u64 0, .int .u64 0, .int .u64 0]] w fun e w' => e = .returned (L (v * 10 + d)) ∧ Below w.heap.size w w' := by
  have e : L d = .agg #[.int .u64 z, .int .u64 0, .int .u64 0, .int .u64 0] := by
    have h0 : w0 d = d := by unfold w0; omega
    have h1 : w1 d = 0 := by unfold w1; omega
    have h2 : w2 d = 0 := by unfold w2; omega
    have h3 : w3 d = 0 := by unfold w3; omega
    simp only [L, h0, h1, h2, h3, hz]; rfl
  rw [← e]
  exact addLong_any (v * 10) d (by unfold top2 top4 at *; omega) (by unfold top4; omega) (by unfold top2 top4 at *; omega) w
theorem num_all {l : List UInt8} (h : isNumL l = true) : l.all isDg = true := by
  cases l with
  | nil => cases h
  | cons c r => unfold isNumL at h; simp only [Bool.and_eq_true] at h; exact h.1
theorem wrap_dig {z : Int} (h : 0 ≤ z) (h2 : z < 256) : IntKind.u64.wrap (IntKind.u8.wrap z) = z := by
  simp [IntKind.wrap, IntKind.bits, IntKind.signed]; omega
theorem valL_take {l : List UInt8} {k : Nat} (h : k < l.length) : valL (l.take (k + 1)) = valL (l.take k) * 10 + (l[k].toNat - 48) := by
  rw [List.take_succ_eq_append_getElem h, valL_snoc, Nat.mul_comm]
theorem valL_take_le (l : List UInt8) (k : Nat) : valL (l.take k) ≤ valL l := by
  have := valL_le (l.take k) (l.drop k)
  rwa [List.take_append_drop] at this
set_option maxRecDepth 100000 in
set_option maxHeartbeats 8000000 in
theorem read_any (s : ByteArray) (hs : s.size ≤ 140737488351232) (w : World) :
    Calls Tryd.prog 33 #[.string s] w fun e w' => e = .returned (.tuple #[W (rdN s.data.toList), .int .i64 (rdE s.data.toList)]) ∧ Below w.heap.size w w' := by
  have hsz : s.data.toList.length = s.size := rfl
  cases hN : isNumL s.data.toList with
  | false =>
    have HI := Lib.hid (isNumber_not s hs hN)
    have HN := Lib.hid hN
    clear hN hsz
    go_enter Tryd.func33, Tryd.ntmps33
    go_wp2_with (go_at_call 45; ((with_reducible refine (HI.out _).mono ?_); rintro e w1 ⟨rfl, hb1⟩; obtain ⟨osA, dA, rfl⟩ := ext_of_below hb1; clear hb1))
    go_returns
    exact ⟨ret_rd (rd_no HN.out).1.symm (rd_no HN.out).2.symm, by (repeat' (first | (with_reducible exact Below.refl _ _) | (with_reducible assumption) | (with_reducible refine Below.alloc ?_ ?_ _) | (with_reducible refine below_drewN ?_ _) | (with_reducible refine below_drew ?_) | (with_reducible refine below_ext ?_ ?_ _ _) | (with_reducible refine Below.setCell ?_ ?_ _) | (simp; done) | (simp; omega) | omega))⟩
  | true =>
    have HI := Lib.hid (isNumber_yes s hs hN)
    have HN := Lib.hid hN
    clear hN
    by_cases h39 : 39 < s.size
    · have h39i : (39 : Int) < s.size := by omega
      clear hsz
      go_enter Tryd.func33, Tryd.ntmps33
      go_wp2_with (go_at_call 45; ((with_reducible refine (HI.out _).mono ?_); rintro e w1 ⟨rfl, hb1⟩; obtain ⟨osA, dA, rfl⟩ := ext_of_below hb1; clear hb1))
      go_returns
      exact ⟨ret_rd (rd_long HN.out h39).1.symm (rd_long HN.out h39).2.symm, by (repeat' (first | (with_reducible exact Below.refl _ _) | (with_reducible assumption) | (with_reducible refine Below.alloc ?_ ?_ _) | (with_reducible refine below_drewN ?_ _) | (with_reducible refine below_drew ?_) | (with_reducible refine below_ext ?_ ?_ _ _) | (with_reducible refine Below.setCell ?_ ?_ _) | (simp; done) | (simp; omega) | omega))⟩
    · have h39i : ¬ (39 : Int) < s.size := by omega
      go_enter Tryd.func33, Tryd.ntmps33
      go_wp2_with (go_at_call 45; ((with_reducible refine (HI.out _).mono ?_); rintro e w1 ⟨rfl, hb1⟩; obtain ⟨osA, dA, rfl⟩ := ext_of_below hb1; clear hb1))
      go_loopw [5] (fun i wr => ∃ (k v : Nat), i = .int .i64 k ∧ k ≤ s.size ∧ v < top2 ∧ Hid (v = valL (s.data.toList.take k)) ∧ Below ((ext (w.alloc (.cells #[.int .u64 0, .int .u64 0] 29)) osA dA).alloc (.cells #[.int .u64 (hi v : Int), .int .u64 (lo v : Int)] 29)).heap.size ((ext (w.alloc (.cells #[.int .u64 0, .int .u64 0] 29)) osA dA).alloc (.cells #[.int .u64 (hi v : Int), .int .u64 (lo v : Int)] 29)) wr) (fun i _ => s.size - (intOf i).toNat)
      case atStart => exact ⟨0, 0, rfl, Nat.zero_le _, by decide, Lib.hid rfl, Below.refl _ _⟩
      case round =>
        obtain ⟨k, v, rfl, hk, hv, hV, hbw⟩ := hrel
        obtain ⟨osX, dX, rfl⟩ := ext_of_below hbw
        clear hbw
        by_cases hlt : k < s.size
        · have hlti : (k : Int) < s.size := by omega
          have hgt : s.data.toList[k]'(by omega) = s[k] := rfl
          have hall : s.data.toList.all isDg = true := num_all HN.out
          have hdg : isDg s[k] = true := List.all_eq_true.1 hall _ (by rw [← hgt]; exact List.getElem_mem _)
          obtain ⟨hb1, hb2⟩ := isDg_yes hdg
          have hb1i : (48 : Int) ≤ s[k].toNat := by omega
          have hb2i : (s[k].toNat : Int) ≤ 57 := by omega
          obtain ⟨d, hd⟩ : ∃ d, d = s[k].toNat - 48 := ⟨_, rfl⟩
          have hd9 : d < 10 := by omega
          have hst := valL_take (l := s.data.toList) (k := k) (by omega)
          rw [hgt, ← hV.out, ← hd] at hst
          have HST := Lib.hid hst.symm
          have HM := Lib.hid (mul_ten v hv)
          have HA := Lib.hid (addDig v d (IntKind.u64.wrap (IntKind.u8.wrap ((s[k].toNat : Int) - 48))) (by rw [wrap_dig (by omega) (by omega)]; omega) hv hd9)
          have hn4 : v * 10 + d < top4 := by unfold top2 top4 at *; omega
          by_cases hn : v * 10 + d < top2
          · have HNA := Lib.hid (narrow_ok (v * 10 + d) hn)
            obtain ⟨v', hv'⟩ : ∃ v', v' = v * 10 + d := ⟨_, rfl⟩
            rw [← hv'] at HNA HST hn HA
            clear hst hd hgt hall hdg hv' hn4 hV
            go_wp2_with fail
            go_region_held3 (fun w' => w'.cell? ⟨w.heap.size + 1 + osA.size, 0, none⟩ = some (.int .u64 (hi v : Int)) ∧ w'.cell? ⟨w.heap.size + 1 + osA.size, 1, none⟩ = some (.int .u64 (lo v : Int))) (simp [go_sem]) (first
              | (go_at_call 47; ((with_reducible refine (HM.out _).mono ?_); rintro e w1 ⟨rfl, hb1⟩; obtain ⟨osM, dM, rfl⟩ := ext_of_below hb1; clear hb1))
              | (go_at_call 46; ((with_reducible refine (HA.out _).mono ?_); rintro e w1 ⟨rfl, hb1⟩; obtain ⟨osN, dN, rfl⟩ := ext_of_below hb1; clear hb1)))
            all_goals
              go_wp2_with (go_at_call 48; ((with_reducible refine (HNA.out _).mono ?_); rintro e w1 ⟨rfl, hb1⟩; obtain ⟨osO, dO, rfl⟩ := ext_of_below hb1; clear hb1))
              go_roundw
              case rel => exact ⟨k + 1, v', by go_num, by omega, hn, HST, by (repeat' (first | (with_reducible exact Below.refl _ _) | (with_reducible assumption) | (with_reducible refine Below.alloc ?_ ?_ _) | (with_reducible refine below_drewN ?_ _) | (with_reducible refine below_drew ?_) | (with_reducible refine below_ext ?_ ?_ _ _) | (with_reducible refine Below.setCell ?_ ?_ _) | (simp; done) | (simp; omega) | omega))⟩
              case measure => simp only [intOf]; omega
          · have hn2 : top2 ≤ v * 10 + d := by omega
            have HNA := Lib.hid (narrow_over (v * 10 + d) hn4 hn2)
            have HV := Lib.hid (show ¬ valL s.data.toList < top2 by
              have := valL_take_le s.data.toList (k + 1)
              rw [hst] at this; omega)
            obtain ⟨v', hv'⟩ : ∃ v', v' = v * 10 + d := ⟨_, rfl⟩
            rw [← hv'] at HNA HA
            clear hst hd hgt hall hdg hv' hn4 hn hn2 hV HST
            go_wp2_with fail
            go_region_held3 (fun w' => w'.cell? ⟨w.heap.size + 1 + osA.size, 0, none⟩ = some (.int .u64 (hi v : Int)) ∧ w'.cell? ⟨w.heap.size + 1 + osA.size, 1, none⟩ = some (.int .u64 (lo v : Int))) (simp [go_sem]) (first
              | (go_at_call 47; ((with_reducible refine (HM.out _).mono ?_); rintro e w1 ⟨rfl, hb1⟩; obtain ⟨osM, dM, rfl⟩ := ext_of_below hb1; clear hb1))
              | (go_at_call 46; ((with_reducible refine (HA.out _).mono ?_); rintro e w1 ⟨rfl, hb1⟩; obtain ⟨osN, dN, rfl⟩ := ext_of_below hb1; clear hb1)))
            all_goals
              go_wp2_with (go_at_call 48; ((with_reducible refine (HNA.out _).mono ?_); rintro e w1 ⟨rfl, hb1⟩; obtain ⟨osO, dO, rfl⟩ := ext_of_below hb1; clear hb1))
              go_returns
              exact ⟨ret_rd (a := 0) (b := rdN s.data.toList) (x := 3) (y := rdE s.data.toList) (by rw [(rd_yes HN.out h39).1]; exact (if_neg HV.out).symm) (by rw [(rd_yes HN.out h39).2]; exact (if_neg HV.out).symm), by (repeat' (first | (with_reducible exact Below.refl _ _) | (with_reducible assumption) | (with_reducible refine Below.alloc ?_ ?_ _) | (with_reducible refine below_drewN ?_ _) | (with_reducible refine below_drew ?_) | (with_reducible refine below_ext ?_ ?_ _ _) | (with_reducible refine Below.setCell ?_ ?_ _) | (simp; done) | (simp; omega) | omega))⟩
        · obtain rfl : k = s.size := by omega
          have hV2 := hV.out
          rw [List.take_of_length_le (by omega)] at hV2
          have HV := Lib.hid hV2
          have HT := Lib.hid (show valL s.data.toList < top2 by rw [← hV2]; exact hv)
          clear hV2 hV
          go_wp2
          go_returns
          exact ⟨ret_rd (a := v) (b := rdN s.data.toList) (x := 0) (y := rdE s.data.toList) (by rw [(rd_yes HN.out h39).1, HV.out]; exact (if_pos HT.out).symm) (by rw [(rd_yes HN.out h39).2]; exact (if_pos HT.out).symm), by (repeat' (first | (with_reducible exact Below.refl _ _) | (with_reducible assumption) | (with_reducible refine Below.alloc ?_ ?_ _) | (with_reducible refine below_drewN ?_ _) | (with_reducible refine below_drew ?_) | (with_reducible refine below_ext ?_ ?_ _ _) | (with_reducible refine Below.setCell ?_ ?_ _) | (simp; done) | (simp; omega) | omega))⟩
end Go.Proofs.YtonajmngchfjeaaDoor
