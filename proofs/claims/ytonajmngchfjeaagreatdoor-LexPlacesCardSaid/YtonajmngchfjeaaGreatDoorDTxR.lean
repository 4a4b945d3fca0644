/-
  The document's number, DocParse.
-/
import Derived.Test.YtonajmngchfjeaaGreatDoorBj
import Derived.Test.YtonajmngchfjeaaGreatDoorDocOne
import Derived.Test.YtonajmngchfjeaaGreatDoorBi
namespace Go.Proofs.YtonajmngchfjeaaGreatDoor
open Go.RowKit Num Word
open Lib (trimLeftB trimRightB)
attribute [local go_sem] setCell_drewN cell?_ext frozen?_ext shape?_ext setCell_ext lt_1' ne_1' en_1' le_1' lt_2' ne_2' en_2' le_2' lt_3' ne_3' en_3' le_3' lt_4' ne_4' en_4' le_4' lt_5' ne_5' en_5' le_5' lt_6' ne_6' en_6' le_6' lt_7' ne_7' en_7' le_7' lt_8' ne_8' en_8' le_8' lt_9' ne_9' en_9' le_9' lt_10' ne_10' en_10' le_10' lt_11' ne_11' en_11' le_11' lt_12' ne_12' en_12' le_12'

theorem sign_ways (s M : ByteArray) (neg : Bool) (m : List UInt8) (hM : M = ⟨m.toArray⟩) (h : (neg = true ∧ s.data.toList = 45 :: m) ∨ (neg = false ∧ s.data.toList = m ∧ m.head? ≠ some 45)) :
    (neg = true ∧ ∃ h : 0 < s.size, (((s[0]'h).toNat : Int) == 45) = true ∧ s.extract 1 s.size = M) ∨
    (neg = false ∧ s = M ∧ (s.size = 0 ∨ ∃ h : 0 < s.size, (((s[0]'h).toNat : Int) == 45) = false)) := by
  have hz : s.data.toList.length = s.size := rfl
  rcases h with ⟨rfl, h⟩ | ⟨rfl, h, h2⟩
  · have h0 : 0 < s.size := by rw [← hz, h]; simp
    refine .inl ⟨rfl, h0, ?_, ?_⟩
    · have : s[0]'h0 = 45 := by
        have e : s.data.toList[0]'(by omega) = s[0]'h0 := rfl
        rw [← e]; simp [h]
      rw [this]; rfl
    · have e : s = ⟨([] ++ 45 :: m).toArray⟩ := by rw [List.nil_append, ← h]
      rw [e, hM]; exact ext_from [] m 45
  · refine .inr ⟨rfl, by rw [hM, ← h], ?_⟩
    rcases Nat.eq_zero_or_pos s.size with h0 | h0
    · exact .inl h0
    · refine .inr ⟨h0, beq_eq_false_iff_ne.2 (fun e => h2 ?_)⟩
      have e45 : s[0]'h0 = 45 := UInt8.toNat_inj.1 (by have : (45 : UInt8).toNat = 45 := rfl; omega)
      have e2 : s.data.toList[0]'(by omega) = s[0]'h0 := rfl
      rw [← h, ← e45, ← e2, List.head?_eq_getElem?, List.getElem?_eq_getElem (by omega)]
set_option maxRecDepth 100000 in
set_option maxHeartbeats 4000000 in
theorem cutT_any {P : Nat → Prop} (v : Value) (l : List Nat) (hd : Dig l) (hl : l.length ≤ 2097152) (w : World) (hr : RdP P w v l) :
    Calls Tryz.prog 53 #[v] w fun e w' => ∃ v', e = .returned v' ∧ RdP P w v' (dg (lv l)) ∧ w = w' := by
  obtain ⟨p, cap, rfl, hcap⟩ := hr.form
  have HR := Lib.hid hr
  have HD := Lib.hid hd
  clear hr hd
  go_enter Tryz.func53, Tryz.ntmps53
  go_wp2
  go_loopw [3] (fun n wr => ∃ m : Nat, n = .int .i64 m ∧ m ≤ l.length ∧ Hid (∀ j (hj : j < l.length), m ≤ j → l[j] = 0) ∧ wr = w) (fun n _ => (intOf n).toNat)
  case atStart => exact ⟨l.length, rfl, Nat.le_refl _, Lib.hid (fun j hj h => by omega), rfl⟩
  case round =>
    obtain ⟨m, rfl, hm, hz, rfl⟩ := hrel
    by_cases h0 : m = 0
    · subst h0
      have HE := Lib.hid (cut_eq l 0 HD.out (Nat.zero_le _) (fun j hj h => hz.out j hj h) (.inl rfl))
      have hT := Lib.hid (HR.out.take 0 (Nat.zero_le _))
      go_wp2
      go_ret
      exact ⟨_, rfl, by rw [← HE.out]; exact hT.out, rfl⟩
    obtain ⟨q, rfl⟩ : ∃ q, m = q + 1 := ⟨m - 1, by omega⟩
    have hq : q < l.length := by omega
    obtain ⟨-, g, off, rfl, hg, hx⟩ := HR.out.cells (by omega)
    have hc := hx q hq
    clear hx h0
    by_cases hz0 : l[q] = 0
    · rw [hz0] at hc
      have HZ := Lib.hid (show ∀ j (hj : j < l.length), q ≤ j → l[j] = 0 from fun j hj h => by
        by_cases e : j = q
        · subst e; exact hz0
        · exact hz.out j hj (by omega))
      clear hz hz0
      go_wp2
      go_roundw
      case rel => exact ⟨q, by go_num, by omega, HZ, trivial⟩
      case measure => simp [intOf]
    · have HE := Lib.hid (cut_eq l (q + 1) HD.out hm (fun j hj h => hz.out j hj h) (.inr ⟨hq, hz0⟩))
      have hT := Lib.hid (HR.out.take (q + 1) hm)
      obtain ⟨x, hxx⟩ : ∃ x, x = l[q] := ⟨_, rfl⟩
      rw [← hxx] at hc hz0
      have hxi : ((x : Int) == 0) = false := by simp; omega
      clear hz hxx hz0
      go_wp2
      go_ret
      exact ⟨_, rfl, by rw [← HE.out]; exact hT.out, rfl⟩
set_option maxRecDepth 100000 in
set_option maxHeartbeats 4000000 in
theorem number_any (x : ByteArray) (hx : x.size ≤ 2097152) (hall : x.data.toList.all isDg = true) (w : World) :
    Calls Tryz.prog 38 #[.string x] w fun e w' => ∃ v', e = .returned v' ∧ Rd w' v' (dg (valL x.data.toList)) ∧ Below w.heap.size w w' := by
  have hsz : x.data.toList.length = x.size := rfl
  obtain ⟨B, hB⟩ : ∃ B, B = w.heap.size := ⟨_, rfl⟩
  have HB := Lib.hid hB
  have HC := Lib.hid (fun v w1 (hr : Rd w1 v (digL x.data.toList)) => cutT_any (P := fun _ => True) v (digL x.data.toList) (digL_dig hall) (by rw [digL_len]; omega) w1 hr)
  have HD := Lib.hid hall
  rw [show dg (lv (digL x.data.toList)) = dg (valL x.data.toList) from rfl] at HC
  clear hB hall
  go_enter Tryz.func38, Tryz.ntmps38
  go_wp2
  go_loopw [3, 4] (fun d i wr => ∃ (m : Nat) (z : Int), i = .int .i64 z ∧ z + 1 = m ∧ m ≤ x.size ∧ Hid (IBuf B d (digL (x.data.toList.drop m)) w wr)) (fun _ i _ => (intOf i + 1).toNat)
  case atStart => exact ⟨x.size, (x.size : Int) - 1, rfl, by omega, Nat.le_refl _, Lib.hid (by
    rw [List.drop_eq_nil_of_le (by omega), HB.out]
    exact IBuf.nil w (by (repeat' (first | (with_reducible exact Below.refl _ _) | (with_reducible assumption) | (with_reducible refine Below.alloc ?_ ?_ _) | (with_reducible refine below_drewN ?_ _) | (with_reducible refine below_drew ?_) | (with_reducible refine below_ext ?_ ?_ _ _) | (with_reducible refine Below.setCell ?_ ?_ _) | (simp; done) | (simp; omega) | omega))))⟩
  case round =>
    obtain ⟨m, z, rfl, hz, hm, hbuf⟩ := hrel
    have hb := hbuf.out
    have hbel := hb.2.1
    rw [HB.out] at hbel
    have HBE := Lib.hid hbel
    clear hbel
    by_cases hm0 : m = 0
    · subst hm0
      obtain rfl : z = -1 := by omega
      have hr := hb.rd
      rw [List.drop_zero] at hr
      have HR := Lib.hid hr.rd
      clear hr hb hbuf
      go_wp2_with (go_at_call 53; ((with_reducible refine (HC.out _ _ HR.out).mono ?_); rintro e w1 ⟨v1, rfl, r1, rfl⟩; have R1 := Lib.hid r1; clear r1))
      go_ret
      exact ⟨_, rfl, R1.out, HBE.out⟩
    obtain ⟨q, rfl⟩ : ∃ q, m = q + 1 := ⟨m - 1, by omega⟩
    obtain rfl : z = (q : Int) := by omega
    have hql : q < x.size := by omega
    have hgt : x.data.toList[q]'(by omega) = x[q] := rfl
    have hdg : isDg x[q] = true := List.all_eq_true.1 HD.out _ (by rw [← hgt]; exact List.getElem_mem _)
    obtain ⟨hb1, hb2⟩ := isDg_yes hdg
    have hdr := digL_drop x.data.toList q (by omega)
    rw [hgt] at hdr
    have HDR := Lib.hid hdr
    have hlen : (digL (x.data.toList.drop (q + 1))).length ≤ 2097152 := by rw [digL_len, List.length_drop]; omega
    have hb1i : (48 : Int) ≤ x[q].toNat := by omega
    have hb2i : (x[q].toNat : Int) ≤ 57 := by omega
    clear hdr hdg hgt hbuf hm0
    go_wp2_with (at_builtin; refine append_int rfl _ _ rfl rfl _ _ (x[q].toNat - 48) (by omega) (by assumption) rfl (by omega) ?_; intro _ _ hb)
    go_roundw
    case rel => exact ⟨q, (q : Int) - 1, rfl, by omega, by omega, Lib.hid (by rw [HDR.out]; exact hb)⟩
    case measure => simp only [intOf]; omega
def strLenD : Value → Nat | .string s => s.size | _ => 0
theorem trimR_step {a : List UInt8} {j : Nat} (hj : j < a.length) (h : a[j] = 48) : trimRightB (a.take (j + 1)) 48 = trimRightB (a.take j) 48 := by
  rw [List.take_succ_eq_append_getElem hj, h]
  simp [trimRightB]
theorem trimR_stop {a : List UInt8} {j : Nat} (hj : j < a.length) (h : a[j] ≠ 48) : trimRightB (a.take (j + 1)) 48 = a.take (j + 1) := by
  rw [List.take_succ_eq_append_getElem hj]
  exact trimR_same h
theorem at_bef {M : ByteArray} {b r : List UInt8} (hM : M = ⟨(b ++ r).toArray⟩) {j : Nat} (hj : j < b.length) (h : j < M.size) : M[j] = b[j] := by
  subst hM
  show (b ++ r).toArray[j] = b[j]
  simp [List.getElem_append_left hj]
theorem at_point {M : ByteArray} {b r : List UInt8} (c : UInt8) (hM : M = ⟨(b ++ c :: r).toArray⟩) (h : b.length < M.size) : M[b.length] = c := by
  subst hM
  show (b ++ c :: r).toArray[b.length] = c
  simp
theorem no_point {x : UInt8} (h : x ≠ 46) : ((x.toNat : Int) == 46) = false :=
  beq_eq_false_iff_ne.2 (fun e => h (UInt8.toNat_inj.1 (by have : (46 : UInt8).toNat = 46 := rfl; omega)))
set_option maxRecDepth 100000 in
set_option maxHeartbeats 16000000 in
theorem docParse_any (s : ByteArray) (hs : s.size ≤ 1048576) (neg pt : Bool) (m b a : List UInt8) (h : Lies s.data.toList neg pt m b a) (o : POut) (ho : o = pOut neg pt b a) (w : World) :
    Calls Tryz.prog 19 #[.string s] w fun e w' => e = .returned (.tuple #[D o.neg o.c (o.s : Int), .int .i64 o.e]) ∧ Below w.heap.size w w' := by
  obtain ⟨h1, h2, h3⟩ := h
  have hsz : s.data.toList.length = s.size := rfl
  have hml : m.length ≤ 1048576 := by
    rcases h1 with ⟨_, e⟩ | ⟨_, e, _⟩
    · have := congrArg List.length e; simp at this; omega
    · rw [← e]; omega
  have hba : b.length + a.length ≤ 1048576 := by
    rcases h2 with ⟨_, e⟩ | ⟨_, e, e2⟩
    · have := congrArg List.length e; simp at this; omega
    · rw [e2, ← e]; simpa using hml
  obtain ⟨M, hM⟩ : ∃ x : ByteArray, x = ⟨m.toArray⟩ := ⟨_, rfl⟩
  obtain ⟨B, hB⟩ : ∃ x : ByteArray, x = ⟨b.toArray⟩ := ⟨_, rfl⟩
  obtain ⟨A, hA⟩ : ∃ x : ByteArray, x = ⟨a.toArray⟩ := ⟨_, rfl⟩
  have hMz : M.size = m.length := by rw [hM]; show m.toArray.size = _; simp
  have hBz : B.size = b.length := by rw [hB]; show b.toArray.size = _; simp
  have hAz : A.size = a.length := by rw [hA]; show a.toArray.size = _; simp
  have hsw := sign_ways s M neg m hM h1
  have HSW := Lib.hid hsw; have HM := Lib.hid hM; have HB := Lib.hid hB; have HA := Lib.hid hA; have H2 := Lib.hid h2; have H3 := Lib.hid h3; have HO := Lib.hid ho
  have HMz := Lib.hid hMz; have HBz := Lib.hid hBz; have HAz := Lib.hid hAz
  clear h1 h2 h3 hsw hM hB hA ho hMz hBz hAz hsz
  go_enter Tryz.func19, Tryz.ntmps19
  go_upto_region 1 with fail
  go_cut [4] (fun s4 wx => s4 = .bool neg ∧ wx = w.alloc (.cells #[.bool false, .int .u64 0, .int .u64 0, .int .i64 0] 33))
  case first =>
    rcases HSW.out with ⟨rfl, hp, h45, hex⟩ | ⟨rfl, rfl, h0 | ⟨hp, h45⟩⟩
    · obtain ⟨n1, n2⟩ := bytes_ne hp
      clear hex
      go_wp2
      go_meet
      case rel => exact ⟨rfl, rfl⟩
    · obtain ⟨n1, n2⟩ := bytes_no h0
      go_wp2
      go_meet
      case rel => exact ⟨rfl, rfl⟩
    · obtain ⟨n1, n2⟩ := bytes_ne hp
      go_wp2
      go_meet
      case rel => exact ⟨rfl, rfl⟩
  case rest =>
    obtain ⟨rfl, rfl⟩ := hcut
    go_upto_if 16 with (fail)
    go_cut [0] (fun s0 wx => s0 = .string M ∧ wx = w.alloc (.cells #[.bool false, .int .u64 0, .int .u64 0, .int .i64 0] 33))
    case first =>
      rcases HSW.out with ⟨rfl, hp, h45, hex⟩ | ⟨rfl, rfl, -⟩
      · have k1 := sliceD_from s 1 1 rfl (by omega)
        rw [hex] at k1
        clear hex h45
        go_wp2
        go_meet
        case rel => exact ⟨rfl, rfl⟩
      · go_wp2
        go_meet
        case rel => exact ⟨rfl, rfl⟩
    case rest =>
      obtain ⟨rfl, rfl⟩ := hcut
      go_upto_block 0 with fail
      by_cases hempty : pt = true ∧ a = []
      · obtain ⟨rfl, rfl⟩ := hempty
        have hm2 : m = b ++ [46] := by
          rcases H2.out with ⟨_, e⟩ | ⟨e, _⟩
          · exact e
          · cases e
        have HX := Lib.hid (HO.out.trans (pOut_bad (neg := neg) (show partsOk true b [] = false by unfold partsOk; cases befOk b <;> rfl)))
        have hMe : M = ⟨(b ++ [46]).toArray⟩ := by rw [HM.out, hm2]
        have hMsz : M.size = b.length + 1 := by rw [HMz.out, hm2]; simp
        have HME := Lib.hid hMe
        obtain ⟨p, hp⟩ : ∃ p, p = b.length := ⟨_, rfl⟩
        rw [← hp] at hMsz
        have HP := Lib.hid hp
        have hp2 : p ≤ 1048576 := by rw [hp]; simp at hba; omega
        have k1 := sliceD_to M (p : Int) p rfl (by omega)
        have k2 := sliceD_from M ((p : Int) + 1) (p + 1) (by omega) (by omega)
        rw [show M.extract (p + 1) M.size = { data := #[] } by rw [hMe, hp]; exact ext_from b [] 46] at k2
        have W1 : IntKind.i64.wrap ((p : Int) + 1) = (p : Int) + 1 := IntWalk.i64_in _ (by omega)
        clear hMe hm2 hp
        go_wp2_with fail
        go_loop [5, 6, 7] (fun s5 s6 i => s5 = .string M ∧ s6 = .string { data := #[] } ∧ ∃ k : Nat, i = .int .i64 k ∧ k ≤ p) (fun _ _ i => p - (intOf i).toNat)
        case atStart => exact ⟨rfl, rfl, 0, rfl, Nat.zero_le _⟩
        case round =>
          obtain ⟨rfl, rfl, k, rfl, hk⟩ := hrel
          have hkM : k < M.size := by omega
          have hkMi : (k : Int) < M.size := by omega
          by_cases hkp : k < p
          · have hb46 : ((M[k].toNat : Int) == 46) = false := no_point (by rw [at_bef HME.out (by rw [← HP.out]; exact hkp) hkM]; exact H3.out _ (List.getElem_mem _))
            go_wp2
            go_round
            case rel => exact ⟨rfl, rfl, k + 1, by go_num, by omega⟩
            case measure => simp only [intOf]; omega
          · obtain rfl : k = p := by omega
            have hb46 : ((M[k].toNat : Int) == 46) = true := by
              have e := HP.out
              have := at_point 46 HME.out (by rw [← e]; exact hkM)
              have e2 : M[k] = 46 := by rw [← this]; congr 1
              rw [e2]; rfl
            go_wp2
            go_quiet (fail)
            go_wp2
            go_returns
            exact ⟨ret_po (n := false) (c := 0) (s := 0) (e := 5) HX.out rfl, by (repeat' (first | (with_reducible exact Below.refl _ _) | (with_reducible assumption) | (with_reducible refine Below.alloc ?_ ?_ _) | (with_reducible refine below_drewN ?_ _) | (with_reducible refine below_drew ?_) | (with_reducible refine below_ext ?_ ?_ _ _) | (with_reducible refine Below.setCell ?_ ?_ _) | (simp; done) | (simp; omega) | omega))⟩
      have hways2 : (pt = false ∧ M = B ∧ A = { data := #[] } ∧ a = []) ∨ (pt = true ∧ m = b ++ 46 :: a ∧ 0 < A.size) := by
        rcases H2.out with ⟨e, e2⟩ | ⟨e, e2, e3⟩
        · refine .inr ⟨e, e2, ?_⟩
          rw [HAz.out]
          rcases Nat.eq_zero_or_pos a.length with h0 | h0
          · exact absurd ⟨e, List.eq_nil_of_length_eq_zero h0⟩ hempty
          · exact h0
        · exact .inl ⟨e, by rw [HM.out, HB.out, e2], by rw [HA.out, e3], e3⟩
      have HW2 := Lib.hid hways2
      clear hways2 hempty
      go_cut [5, 6] (fun s5 s6 wx => s5 = .string B ∧ s6 = .string A ∧ ∃ nd, wx = (w.alloc (.cells #[.bool false, .int .u64 0, .int .u64 0, .int .i64 0] 33)).drewN nd)
      case first =>
        rcases HW2.out with ⟨rfl, rfl, rfl, -⟩ | ⟨rfl, hm2, hA0⟩
        · have hMsz := HBz.out
          obtain ⟨p, hp⟩ : ∃ p, p = b.length := ⟨_, rfl⟩
          rw [← hp] at hMsz
          have HP := Lib.hid hp
          have HMS := Lib.hid hMsz
          have hp2 : p ≤ 1048576 := by rw [hp]; omega
          clear hp hMsz
          go_wp2_with fail
          go_loop [5, 6, 7] (fun s5 s6 i => s5 = .string M ∧ s6 = .string { data := #[] } ∧ ∃ k : Nat, i = .int .i64 k ∧ k ≤ p) (fun _ _ i => p - (intOf i).toNat)
          case atStart => exact ⟨rfl, rfl, 0, rfl, Nat.zero_le _⟩
          case round =>
            obtain ⟨rfl, rfl, k, rfl, hk⟩ := hrel
            have hMsz := HMS.out
            by_cases hkp : k < p
            · have hkM : k < M.size := by omega
              have hkMi : (k : Int) < M.size := by omega
              have hb46 : ((M[k].toNat : Int) == 46) = false := no_point (by rw [at_bef (b := b) (r := []) (by rw [List.append_nil]; exact HB.out) (by rw [← HP.out]; exact hkp) hkM]; exact H3.out _ (List.getElem_mem _))
              clear hMsz
              go_wp2
              go_round
              case rel => exact ⟨rfl, rfl, k + 1, by go_num, by omega⟩
              case measure => simp only [intOf]; omega
            · have hkMi : ¬ (k : Int) < M.size := by omega
              clear hMsz
              go_wp2
              go_meet
              case rel => exact ⟨rfl, rfl, 0, rfl⟩
        · have hMe : M = ⟨(b ++ 46 :: a).toArray⟩ := by rw [HM.out, hm2]
          have hMsz : M.size = b.length + 1 + a.length := by rw [HMz.out, hm2]; simp; omega
          have HME := Lib.hid hMe
          obtain ⟨p, hp⟩ : ∃ p, p = b.length := ⟨_, rfl⟩
          rw [← hp] at hMsz
          have HP := Lib.hid hp
          have hp2 : p ≤ 1048576 := by rw [hp]; omega
          have k1 := sliceD_to M (p : Int) p rfl (by omega)
          have k2 := sliceD_from M ((p : Int) + 1) (p + 1) (by omega) (by omega)
          rw [show M.extract (p + 1) M.size = A by rw [hMe, hp, HA.out]; exact ext_from b a 46] at k2
          rw [show M.extract 0 p = B by rw [hMe, hp, HB.out]; exact ext_to b _] at k1
          have W1 : IntKind.i64.wrap ((p : Int) + 1) = (p : Int) + 1 := IntWalk.i64_in _ (by omega)
          have hMlt : p < M.size := by omega
          obtain ⟨n1, n2⟩ := bytes_ne hA0
          clear hMe hm2 hp hMsz
          go_wp2_with fail
          go_loop [5, 6, 7] (fun s5 s6 i => s5 = .string M ∧ s6 = .string { data := #[] } ∧ ∃ k : Nat, i = .int .i64 k ∧ k ≤ p) (fun _ _ i => p - (intOf i).toNat)
          case atStart => exact ⟨rfl, rfl, 0, rfl, Nat.zero_le _⟩
          case round =>
            obtain ⟨rfl, rfl, k, rfl, hk⟩ := hrel
            have hkM : k < M.size := by omega
            have hkMi : (k : Int) < M.size := by omega
            by_cases hkp : k < p
            · have hb46 : ((M[k].toNat : Int) == 46) = false := no_point (by rw [at_bef HME.out (by rw [← HP.out]; exact hkp) hkM]; exact H3.out _ (List.getElem_mem _))
              go_wp2
              go_round
              case rel => exact ⟨rfl, rfl, k + 1, by go_num, by omega⟩
              case measure => simp only [intOf]; omega
            · obtain rfl : k = p := by omega
              have hb46 : ((M[k].toNat : Int) == 46) = true := by
                have e := HP.out
                have := at_point 46 HME.out (by rw [← e]; exact hkM)
                have e2 : M[k] = 46 := by rw [← this]; congr 1
                rw [e2]; rfl
              go_wp2
              go_quiet (fail)
              go_wp2
              go_meet
              case rel => exact ⟨rfl, rfl, _, rfl⟩
      case rest =>
        obtain ⟨rfl, rfl, nd, rfl⟩ := hcut
        have hways := bef_ways b B HB.out
        have HWB := Lib.hid hways
        have hrB := fun w => rdigits_any B (by have := HBz.out; omega) w
        have hrA := fun w => rdigits_any A (by have := HAz.out; omega) w
        rw [show B.data.toList = b by rw [HB.out]] at hrB
        rw [show A.data.toList = a by rw [HA.out]] at hrA
        have HRB := Lib.hid hrB; have HRA := Lib.hid hrA
        clear hways hrB hrA
        go_upto_region 12 with fail
        go_cut [61] (fun s61 wx => s61 = .bool (!partsOk pt b a) ∧ wx = (w.alloc (.cells #[.bool false, .int .u64 0, .int .u64 0, .int .i64 0] 33)).drewN nd)
        case first =>
          rcases HWB.out with ⟨hf, hd | ⟨hd, hlt, h48⟩⟩ | ⟨ht, hd, hfirst⟩
          · have HX := Lib.hid (show partsOk pt b a = false by unfold partsOk; rw [hf]; rfl)
            have hr := HRB.out
            rw [hd] at hr
            have HR1 := Lib.hid hr
            clear hr hf hd
            go_wp2_with (go_at_call 37; ((with_reducible refine (HR1.out _).mono ?_); rintro e w' ⟨rfl, rfl⟩))
            go_meet
            case rel => exact ⟨by rw [HX.out]; rfl, rfl⟩
          · have HX := Lib.hid (show partsOk pt b a = false by unfold partsOk; rw [hf]; rfl)
            have hr := HRB.out
            rw [hd] at hr
            have HR1 := Lib.hid hr
            have hlti : (1 : Int) < B.size := by omega
            have hlt0 : 0 < B.size := by omega
            clear hr hf hd
            go_wp2_with (go_at_call 37; ((with_reducible refine (HR1.out _).mono ?_); rintro e w' ⟨rfl, rfl⟩))
            go_meet
            case rel => exact ⟨by rw [HX.out]; rfl, rfl⟩
          · have hr := HRB.out
            rw [hd] at hr
            have HR1 := Lib.hid hr
            have hfirst' : ¬ (1 : Int) < B.size ∨ ∃ h : 1 < B.size, (1 : Int) < B.size ∧ (((B[0]'(by omega)).toNat : Int) == 48) = false := by
              rcases hfirst with h | ⟨h, h'⟩
              · exact .inl (by omega)
              · exact .inr ⟨h, by omega, h'⟩
            clear hfirst hr
            rcases HW2.out with ⟨rfl, rfl, rfl, -⟩ | ⟨rfl, -, hA0⟩
            · have HX := Lib.hid (show partsOk false b a = true by unfold partsOk; rw [ht]; rfl)
              clear ht hd
              rcases hfirst' with hlti | ⟨hlt, hlti, h48⟩
              all_goals
                go_wp2_with (go_at_call 37; ((with_reducible refine (HR1.out _).mono ?_); rintro e w' ⟨rfl, rfl⟩))
                go_meet
                case rel => exact ⟨by rw [HX.out]; rfl, rfl⟩
            · obtain ⟨n1, n2⟩ := bytes_ne hA0
              have hr := HRA.out
              cases hd2 : digsB a with
              | false =>
                have HX := Lib.hid (show partsOk true b a = false by unfold partsOk; rw [ht, hd2]; rfl)
                rw [hd2] at hr
                have HR2 := Lib.hid hr
                clear hr ht hd hd2
                rcases hfirst' with hlti | ⟨hlt, hlti, h48⟩
                all_goals
                  go_wp2_with (first
                    | (go_at_call 37; ((with_reducible refine (HR1.out _).mono ?_); rintro e w' ⟨rfl, rfl⟩))
                    | (go_at_call 37; ((with_reducible refine (HR2.out _).mono ?_); rintro e w' ⟨rfl, rfl⟩)))
                  go_meet
                  case rel => exact ⟨by rw [HX.out]; rfl, rfl⟩
              | true =>
                have HX := Lib.hid (show partsOk true b a = true by unfold partsOk; rw [ht, hd2]; rfl)
                rw [hd2] at hr
                have HR2 := Lib.hid hr
                clear hr ht hd hd2
                rcases hfirst' with hlti | ⟨hlt, hlti, h48⟩
                all_goals
                  go_wp2_with (first
                    | (go_at_call 37; ((with_reducible refine (HR1.out _).mono ?_); rintro e w' ⟨rfl, rfl⟩))
                    | (go_at_call 37; ((with_reducible refine (HR2.out _).mono ?_); rintro e w' ⟨rfl, rfl⟩)))
                  go_meet
                  case rel => exact ⟨by rw [HX.out]; rfl, rfl⟩
        case rest =>
          obtain ⟨rfl, rfl⟩ := hcut
          cases hok : partsOk pt b a with
          | false =>
            have HX := Lib.hid (HO.out.trans (pOut_bad (neg := neg) hok))
            clear hok
            go_wp2_with fail
            go_returns
            exact ⟨ret_po (n := false) (c := 0) (s := 0) (e := 5) HX.out rfl, by (repeat' (first | (with_reducible exact Below.refl _ _) | (with_reducible assumption) | (with_reducible refine Below.alloc ?_ ?_ _) | (with_reducible refine below_drewN ?_ _) | (with_reducible refine below_drew ?_) | (with_reducible refine below_ext ?_ ?_ _ _) | (with_reducible refine Below.setCell ?_ ?_ _) | (simp; done) | (simp; omega) | omega))⟩
          | true =>
            have HOK := Lib.hid hok
            clear hok
            obtain ⟨A', hA'⟩ : ∃ x : ByteArray, x = ⟨(trimRightB a 48).toArray⟩ := ⟨_, rfl⟩
            have HA' := Lib.hid hA'
            have hAz' : A'.size = (trimRightB a 48).length := by rw [hA']; show (trimRightB a 48).toArray.size = _; simp
            have HAz' := Lib.hid hAz'
            have hr := trimR_len a
            have hA'2 : A'.size ≤ 1048576 := by omega
            clear hA' hAz'
            go_upto_block 2 with fail
            go_cut [6] (fun s6 wx => s6 = .string A' ∧ wx = (w.alloc (.cells #[.bool false, .int .u64 0, .int .u64 0, .int .i64 0] 33)).drewN nd)
            case first =>
              go_wp2_with fail
              go_loop [6] (fun s6 => ∃ (x : ByteArray) (j : Nat), s6 = .string x ∧ j ≤ a.length ∧ x.size = j ∧ Hid (x = ⟨(a.take j).toArray⟩) ∧ Hid (trimRightB (a.take j) 48 = trimRightB a 48)) (fun s6 => strLenD s6)
              case atStart => exact ⟨A, a.length, rfl, Nat.le_refl _, HAz.out, Lib.hid (by rw [HA.out, List.take_length]), Lib.hid (by rw [List.take_length])⟩
              case round =>
                obtain ⟨x, j, rfl, hj, hxj, hx, ht⟩ := hrel
                by_cases hj0 : j = 0
                · subst hj0
                  obtain ⟨n1, n2⟩ := bytes_no hxj
                  have HE := Lib.hid (show x = A' by rw [hx.out, HA'.out, ← ht.out]; rfl)
                  clear hx ht
                  go_wp2
                  go_meet
                  case rel => exact ⟨by rw [HE.out], rfl⟩
                obtain ⟨q, rfl⟩ : ∃ q, j = q + 1 := ⟨j - 1, by omega⟩
                obtain ⟨n1, n2⟩ := bytes_ne (s := x) (by omega)
                have hqx : q < x.size := by omega
                have hqxi : (q : Int) < x.size := by omega
                have hqa : q < a.length := by omega
                have e1 : (x.size : Int) - 1 = (q : Int) := by omega
                have hxq : x[q] = a[q] := by
                  have := hx.out
                  subst this
                  show (a.take (q + 1)).toArray[q] = a[q]
                  simp
                have hx1 : (1 : Int) ≤ x.size := by omega
                by_cases h48 : a[q] = 48
                · have hb48 : ((x[q].toNat : Int) == 48) = true := by rw [hxq, h48]; rfl
                  have k1 := sliceD_to x ((x.size : Int) - 1) q e1 (by omega)
                  obtain ⟨y, hy⟩ : ∃ y, y = x.extract 0 q := ⟨_, rfl⟩
                  rw [← hy] at k1
                  have hyz : y.size = q := by rw [hy, ByteArray.size_extract]; omega
                  have HY := Lib.hid (show y = ⟨(a.take q).toArray⟩ by
                    rw [hy, hx.out, List.take_succ_eq_append_getElem hqa]
                    have := ext_to (a.take q) [a[q]]
                    rwa [List.length_take, Nat.min_eq_left (by omega)] at this)
                  have HT := Lib.hid (show trimRightB (a.take q) 48 = trimRightB a 48 by rw [← ht.out, trimR_step hqa h48])
                  rw [e1] at k1
                  have HYZ := Lib.hid hyz
                  have E1 : (x.size : Int) - 1 = (q : Int) := e1
                  clear hy hyz hx ht hxq h48 e1 hxj
                  go_wp2
                  go_round
                  case rel => exact ⟨y, q, rfl, by omega, HYZ.out, HY, HT⟩
                  case measure => have := HYZ.out; show y.size < x.size; omega
                · have hb48 : ((x[q].toNat : Int) == 48) = false := beq_eq_false_iff_ne.2 (fun e => h48 (by rw [← hxq]; exact UInt8.toNat_inj.1 (by have : (48 : UInt8).toNat = 48 := rfl; omega)))
                  have HE := Lib.hid (show x = A' by rw [hx.out, HA'.out, ← ht.out, trimR_stop hqa h48])
                  have E1 : (x.size : Int) - 1 = (q : Int) := e1
                  clear hx ht hxq h48 e1 hxj
                  go_wp2
                  go_meet
                  case rel => exact ⟨by rw [HE.out], rfl⟩
            case rest =>
              obtain ⟨rfl, rfl⟩ := hcut
              have hok := HOK.out
              have hall : (b ++ trimRightB a 48).all isDg = true := by
                unfold partsOk befOk at hok
                simp only [Bool.and_eq_true] at hok
                rw [List.all_append, (digsB_yes.1 hok.1.1).1, Bool.true_and]
                rcases H2.out with ⟨e, _⟩ | ⟨_, _, e⟩
                · have h9 := hok.2
                  rw [e] at h9
                  exact trimR_all (digsB_yes.1 (by simpa using h9)).1
                · rw [e]; rfl
              have hlast := fun h0 => last_ne (b := b) (a := a) hall h0
              rw [show valL (b ++ trimRightB a 48) = pV b a from rfl] at hlast
              have hAz' := HAz'.out
              have hX : (B ++ A').data.toList = b ++ trimRightB a 48 := by rw [HB.out, HA'.out]; simp
              have hB9 : B.size ≤ 1048576 := by have := HBz.out; omega
              have hN := fun w => number_any (B ++ A') (by rw [ByteArray.size_append]; omega) (by rw [hX]; exact hall) w
              rw [hX, show valL (b ++ trimRightB a 48) = pV b a from rfl] at hN
              obtain ⟨L, hL⟩ : ∃ L, L = dg (pV b a) := ⟨_, rfl⟩
              rw [← hL] at hN
              have HN := Lib.hid hN
              obtain ⟨sc, hsc⟩ : ∃ sc, sc = (trimRightB a 48).length := ⟨_, rfl⟩
              rw [← hsc] at hAz'
              by_cases h0 : pV b a = 0
              · have hsc0 : sc = 0 := by
                  rcases Nat.eq_zero_or_pos sc with e | e
                  · exact e
                  · exact absurd (by rw [h0]) (hlast (by omega))
                have hL0 : L = [] := by rw [hL, h0, dg_zero]
                have HX := Lib.hid (HO.out.trans (pOut_nought neg hok h0))
                subst hL0
                have hA0 : A'.size = 0 := by omega
                have ho1 : ¬ (18 : Int) < A'.size := by omega
                have HM1 := Lib.hid (fun v1 w1 (hr : Rd w1 v1 []) => show Calls Tryz.prog 39 #[.bool false, v1, .int .i64 (A'.size : Int)] w1 fun e w' => e = .returned (D false 0 0) ∧ Below w1.heap.size w1 w' from by
                  have := rmake_any false v1 0 0 (by decide) (by decide) w1 (by rw [dg_zero]; exact hr)
                  rw [DS_form (neg := false) (c := 0) (S := 0) (fun _ h => by cases h) (fun h => absurd rfl h)] at this
                  rw [hA0]; exact this)
                clear hsc hL h0 hok hall hlast hN hX hAz' hsc0 hA0
                cases neg with
                | true =>
                  go_wp2_with (go_at_call 38; ((with_reducible refine (HN.out _).mono ?_); rintro e w1 ⟨v1, rfl, r1, b1⟩; obtain ⟨p1, c1, rfl, -⟩ := r1.form; obtain ⟨osA, dA, rfl⟩ := ext_of_below b1; have R1 := Lib.hid r1; clear r1 b1))
                  go_returns
                  exact ⟨ret_po (n := false) (c := 0) (s := 0) (e := 5) HX.out rfl, by (repeat' (first | (with_reducible exact Below.refl _ _) | (with_reducible assumption) | (with_reducible refine Below.alloc ?_ ?_ _) | (with_reducible refine below_drewN ?_ _) | (with_reducible refine below_drew ?_) | (with_reducible refine below_ext ?_ ?_ _ _) | (with_reducible refine Below.setCell ?_ ?_ _) | (simp; done) | (simp; omega) | omega))⟩
                | false =>
                  go_wp2_with (first
                    | (go_at_call 38; ((with_reducible refine (HN.out _).mono ?_); rintro e w1 ⟨v1, rfl, r1, b1⟩; obtain ⟨p1, c1, rfl, -⟩ := r1.form; obtain ⟨osA, dA, rfl⟩ := ext_of_below b1; have R1 := Lib.hid (show Rd _ (.slice p1 0 c1) [] from r1); clear r1 b1))
                    | (go_at_call 39; ((with_reducible refine (HM1.out _ _ R1.out).mono ?_); rintro e w1 ⟨rfl, hb1⟩; obtain ⟨osB, dB, rfl⟩ := ext_of_below hb1; clear hb1)))
                  go_returns
                  exact ⟨ret_po (n := false) (c := 0) (s := 0) (e := 0) HX.out rfl, by (repeat' (first | (with_reducible exact Below.refl _ _) | (with_reducible assumption) | (with_reducible refine Below.alloc ?_ ?_ _) | (with_reducible refine below_drewN ?_ _) | (with_reducible refine below_drew ?_) | (with_reducible refine below_ext ?_ ?_ _ _) | (with_reducible refine Below.setCell ?_ ?_ _) | (simp; done) | (simp; omega) | omega))⟩
              · have hLp : 0 < L.length := by rw [hL]; exact dg_len_lt.2 (by rw [Nat.pow_zero]; omega)
                have hL0 : ((L.length : Int) == 0) = false := beq_eq_false_iff_ne.2 (by omega)
                by_cases hov : 18 < (trimRightB a 48).length ∨ 34 < (dg (pV b a)).length
                · have HX := Lib.hid (HO.out.trans (pOut_over (neg := neg) hok h0 hov))
                  rw [← hsc, ← hL] at hov
                  have hov' : (18 : Int) < A'.size ∨ (¬ (18 : Int) < A'.size ∧ (34 : Int) < L.length) := by omega
                  clear hsc hL h0 hok hall hlast hN hX hAz' hov hLp
                  rcases hov' with ho1 | ⟨ho1, ho2⟩
                  all_goals
                    cases neg
                    all_goals
                      go_wp2_with (go_at_call 38; ((with_reducible refine (HN.out _).mono ?_); rintro e w1 ⟨v1, rfl, r1, b1⟩; obtain ⟨p1, c1, rfl, -⟩ := r1.form; obtain ⟨osA, dA, rfl⟩ := ext_of_below b1; have R1 := Lib.hid r1; clear r1 b1))
                      go_returns
                      exact ⟨ret_po (n := false) (c := 0) (s := 0) (e := 3) HX.out rfl, by (repeat' (first | (with_reducible exact Below.refl _ _) | (with_reducible assumption) | (with_reducible refine Below.alloc ?_ ?_ _) | (with_reducible refine below_drewN ?_ _) | (with_reducible refine below_drew ?_) | (with_reducible refine below_ext ?_ ?_ _ _) | (with_reducible refine Below.setCell ?_ ?_ _) | (simp; done) | (simp; omega) | omega))⟩
                · have HX := Lib.hid (HO.out.trans (pOut_yes (neg := neg) hok h0 hov))
                  rw [← hsc] at HX
                  rw [← hsc, ← hL] at hov
                  have ho1 : ¬ (18 : Int) < A'.size := by omega
                  have ho2 : ¬ (34 : Int) < L.length := by omega
                  obtain ⟨v, hv⟩ : ∃ v, v = pV b a := ⟨_, rfl⟩
                  rw [← hv] at HX hL h0 hlast
                  have hv34 : v < 10 ^ 34 := dg_len_le.1 (by rw [← hL]; omega)
                  have HM1 := Lib.hid (fun v1 w1 (hr : Rd w1 v1 L) => show Calls Tryz.prog 39 #[.bool neg, v1, .int .i64 (A'.size : Int)] w1 fun e w' => e = .returned (D neg v (sc : Int)) ∧ Below w1.heap.size w1 w' from by
                    have := rmake_any neg v1 v sc hv34 (by omega) w1 (by rw [← hL]; exact hr)
                    rw [DS_form (fun _ _ => h0) (fun h => hlast (by omega))] at this
                    rw [show (A'.size : Int) = (sc : Int) by omega]; exact this)
                  clear hsc hL h0 hok hall hlast hN hX hAz' hov hLp hv hv34
                  cases neg
                  all_goals
                    go_wp2_with (first
                      | (go_at_call 38; ((with_reducible refine (HN.out _).mono ?_); rintro e w1 ⟨v1, rfl, r1, b1⟩; obtain ⟨p1, c1, rfl, -⟩ := r1.form; obtain ⟨osA, dA, rfl⟩ := ext_of_below b1; have R1 := Lib.hid r1; clear r1 b1))
                      | (go_at_call 39; ((with_reducible refine (HM1.out _ _ R1.out).mono ?_); rintro e w1 ⟨rfl, hb1⟩; obtain ⟨osB, dB, rfl⟩ := ext_of_below hb1; clear hb1)))
                    go_returns
                    exact ⟨ret_po (c := v) (s := (sc : Int)) (e := 0) HX.out rfl, by (repeat' (first | (with_reducible exact Below.refl _ _) | (with_reducible assumption) | (with_reducible refine Below.alloc ?_ ?_ _) | (with_reducible refine below_drewN ?_ _) | (with_reducible refine below_drew ?_) | (with_reducible refine below_ext ?_ ?_ _ _) | (with_reducible refine Below.setCell ?_ ?_ _) | (simp; done) | (simp; omega) | omega))⟩
end Go.Proofs.YtonajmngchfjeaaGreatDoor
