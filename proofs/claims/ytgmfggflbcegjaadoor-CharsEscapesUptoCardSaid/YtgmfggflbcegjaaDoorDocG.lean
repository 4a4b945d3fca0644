/-
  The document's Unescape.
-/
import Derived.Test.YtgmfggflbcegjaaDoorDocF
import Derived.Test.YtgmfggflbcegjaaDoorEscE
import Derived.Lib.QuoteLoop
namespace Go.Proofs.YtgmfggflbcegjaaDoor
open Go.RowKit Txt
attribute [local go_sem] setCell_drewN cell?_ext frozen?_ext shape?_ext setCell_ext lt_1' ne_1' en_1' le_1' lt_2' ne_2' en_2' le_2' lt_3' ne_3' en_3' le_3' lt_4' ne_4' en_4' le_4' lt_5' ne_5' en_5' le_5' lt_6' ne_6' en_6' le_6' lt_7' ne_7' en_7' le_7' lt_8' ne_8' en_8' le_8' lt_9' ne_9' en_9' le_9' lt_10' ne_10' en_10' le_10' lt_11' ne_11' en_11' le_11' lt_12' ne_12' en_12' le_12'

theorem plain_any (s : ByteArray) (attr : Bool) (hs : s.size ≤ 1048576) (w : World) :
    Calls Tryd.prog 38 #[.string s, .bool attr] w fun e w' => e = .returned (.string (mkb (pl attr s.data.toList))) ∧ Below w.heap.size w w' := by
  cases attr with
  | false => exact plain_false s hs _ rfl w
  | true => exact plain_true s hs _ rfl w
theorem du_end {f : Nat} {acc : List UInt8} {X : Option (List UInt8)} (hf : 0 < f) (h : X = du f [] acc) : X = some acc := by
  obtain ⟨g, rfl⟩ : ∃ g, f = g + 1 := ⟨f - 1, by omega⟩
  exact h
section
variable {t : ByteArray} {X : Option (List UInt8)} {f k : Nat} {acc : List UInt8}
theorem du_less (hf : t.size - k < f) (h : X = du f (t.data.toList.drop k) acc) (hk : k < t.size) (hc : t[k] = 60) : X = none := by
  obtain ⟨g, rfl⟩ : ∃ g, f = g + 1 := ⟨f - 1, by omega⟩
  rw [h, drop_at t k hk, hc, du, if_pos rfl]
theorem du_other (hf : t.size - k < f) (h : X = du f (t.data.toList.drop k) acc) (hk : k < t.size) (h1 : ¬ t[k] = 60) (h2 : ¬ t[k] = 38) : ∃ g, t.size - (k + 1) < g ∧ X = du g (t.data.toList.drop (k + 1)) (acc ++ [t[k]]) := by
  obtain ⟨g, rfl⟩ : ∃ g, f = g + 1 := ⟨f - 1, by omega⟩
  exact ⟨g, by omega, by rw [h, drop_at t k hk, du, if_neg h1, if_neg h2]⟩
/-- what comes behind an & -/
def aftD (f : Nat) (o : Option (List UInt8 × List UInt8)) (acc : List UInt8) : Option (List UInt8) := match o with
  | none => none
  | some p => du f p.2 (acc ++ p.1)
theorem du_amp (hf : t.size - k < f) (h : X = du f (t.data.toList.drop k) acc) (hk : k < t.size) (hc : t[k] = 38) : ∃ g, t.size - (k + 1) < g ∧ X = aftD g (dref (t.data.toList.drop (k + 1))) acc := by
  obtain ⟨g, rfl⟩ : ∃ g, f = g + 1 := ⟨f - 1, by omega⟩
  exact ⟨g, by omega, by rw [h, drop_at t k hk, hc, du, if_neg (by decide), if_pos rfl]; rfl⟩
/-- so far no ; and no & -/
def Sofar (t : ByteArray) (k q : Nat) : Prop := sp (t.data.toList.drop k) = (sp (t.data.toList.drop q)).map (fun p => ((t.data.toList.take q).drop k ++ p.1, p.2))
theorem sofar_start (k : Nat) : Sofar t k k := by
  unfold Sofar
  cases sp (t.data.toList.drop k) with
  | none => rfl
  | some p => simp
theorem take_drop_snoc (t : ByteArray) (k q : Nat) (hkq : k ≤ q) (hq : q < t.size) : (t.data.toList.take (q + 1)).drop k = (t.data.toList.take q).drop k ++ [t[q]] := by
  rw [take_snoc t q hq, List.drop_append_of_le_length (by rw [List.length_take]; have : t.data.toList.length = t.size := rfl; omega)]
theorem sofar_step {q : Nat} (h : Sofar t k q) (hkq : k ≤ q) (hq : q < t.size) (h1 : ¬ t[q] = 59) (h2 : ¬ t[q] = 38) : Sofar t k (q + 1) := by
  unfold Sofar at *
  rw [h, drop_at t q hq, sp, if_neg h1, if_neg h2, take_drop_snoc t k q hkq hq, Option.map_map]
  cases sp (t.data.toList.drop (q + 1)) with
  | none => rfl
  | some p => simp
theorem sofar_end (h : Sofar t k t.size) : dref (t.data.toList.drop k) = none := by
  unfold Sofar at h
  rw [drop_end] at h
  unfold dref
  rw [h]; rfl
theorem sofar_amp {q : Nat} (h : Sofar t k q) (hq : q < t.size) (h2 : t[q] = 38) : dref (t.data.toList.drop k) = none := by
  unfold Sofar at h
  rw [drop_at t q hq, h2, sp, if_neg (by decide), if_pos rfl] at h
  unfold dref
  rw [h]; rfl
theorem sofar_semi {q : Nat} (h : Sofar t k q) (hq : q < t.size) (h2 : t[q] = 59) : dref (t.data.toList.drop k) = (dnam ((t.data.toList.take q).drop k)).map (fun x => (x, t.data.toList.drop (q + 1))) := by
  unfold Sofar at h
  rw [drop_at t q hq, h2, sp, if_pos rfl] at h
  unfold dref
  rw [h]
  simp
end
theorem dnam_len {b R : List UInt8} (h : dnam b = some R) : R.length ≤ 4 := by
  have hd : ∀ (base : Int) (l : List UInt8), dchr base l = some R → R.length ≤ 4 := by
    intro base l h
    unfold dchr at h
    cases hn : dnum base 0 l with
    | none => rw [hn] at h; cases h
    | some n =>
      rw [hn] at h
      simp only [] at h
      split at h
      · cases h; simp only [Lib.encodeRune, List.length_map]; exact Lib.encodeRuneZ_length_le n
      · cases h
  unfold dnam at h
  split at h
  · cases h; decide
  split at h
  · cases h; decide
  split at h
  · cases h; decide
  split at h
  · cases h; decide
  split at h
  · cases h; decide
  cases b with
  | nil => cases h
  | cons c r =>
    simp only [] at h
    split at h
    · split at h
      · exact hd _ _ h
      · exact hd _ _ h
    · cases h
set_option maxRecDepth 100000 in
set_option maxHeartbeats 16000000 in
theorem docune_text (s : ByteArray) (attr : Bool) (hs : s.size ≤ 1048576) (ht : isText s = true) (X : Option (List UInt8)) (hX : X = une attr (s.size + 1) s.data.toList []) (w : World) :
    Calls Tryd.prog 13 #[.string s, .bool attr] w fun e w' => e = .returned (ansX X) ∧ Below w.heap.size w w' := by
  have hV := rvalid_any s hs w
  rw [ht] at hV
  have HV := Lib.hid hV
  obtain ⟨i0, hi, hz0, hz1, hz2⟩ := info_parts infoByte
  obtain ⟨B, hB⟩ : ∃ B, B = w.heap.size := ⟨_, rfl⟩
  have HB := Lib.hid hB
  have hP := fun w => plain_any s attr hs w
  obtain ⟨t, htt⟩ : ∃ t, t = mkb (pl attr s.data.toList) := ⟨_, rfl⟩
  have htd : t.data.toList = pl attr s.data.toList := by rw [htt]
  have hts : t.size ≤ 1048576 := by
    have h1 := pl_len attr s.data.toList
    rw [← Lib.size_eq] at h1
    rw [Lib.size_eq, htd]; omega
  rw [← htt] at hP
  have HP := Lib.hid hP
  have hX1 : X = du (t.size + 1) t.data.toList [] := by
    rw [hX, htd]
    exact une_du attr _ _ _ _ (by rw [← Lib.size_eq]; omega) (by rw [Lib.size_eq, htd]; omega)
  have HX0 := Lib.hid hX1
  clear hV ht hB hP hX1 htd htt hX hs
  go_enter Tryd.func13, Tryd.ntmps13
  go_wp2_with (first | (go_at_call 21; ((with_reducible refine (HV.out).mono ?_); rintro e w1 ⟨rfl, hb1⟩; obtain ⟨osA, dA, rfl⟩ := ext_of_below hb1; clear hb1)) | (go_at_call 38; ((with_reducible refine (HP.out _).mono ?_); rintro e w1 ⟨rfl, hb1⟩; obtain ⟨osB, dB, rfl⟩ := ext_of_below hb1; clear hb1)))
  go_loopw [6, 7] (fun v i wr => ∃ (k f : Nat) (acc : List UInt8), k ≤ t.size ∧ acc.length ≤ 4 * k ∧ i = .int .i64 k ∧ t.size - k < f ∧ Hid (Buf B v acc w wr) ∧ Hid (X = du f (t.data.toList.drop k) acc)) (fun _ i _ => t.size - (intOf i).toNat)
  case atStart => exact ⟨0, t.size + 1, [], Nat.zero_le _, Nat.zero_le _, rfl, by omega, Lib.hid (by rw [HB.out]; exact Buf.nil w (by (repeat' (first | (with_reducible exact Below.refl _ _) | (with_reducible assumption) | (with_reducible refine Below.alloc ?_ ?_ _) | (with_reducible refine below_drewN ?_ _) | (with_reducible refine below_drew ?_) | (with_reducible refine below_ext ?_ ?_ _ _) | (with_reducible refine Below.setCell ?_ ?_ _) | (simp; done) | (simp; omega) | omega)))), Lib.hid (by rw [List.drop_zero]; exact HX0.out)⟩
  case round =>
    obtain ⟨k, f, acc, hk, hl, rfl, hf, hb0, HX⟩ := hrel
    have hb := hb0.out
    clear HX0 HV HP
    by_cases hlt : k < t.size
    · have hlti : (k : Int) < t.size := by omega
      by_cases h60 : t[k] = 60
      · have HN := Lib.hid (du_less hf HX.out hlt h60)
        have e60 : ((t[k].toNat : Nat) : Int) = 60 := by rw [h60]; rfl
        clear h60 HX hf
        go_wp2
        go_ret2
        exact ⟨by rw [HN.out]; rfl, by have := hb.2.1; rw [HB.out] at this; exact this⟩
      by_cases h38 : t[k] = 38
      · obtain ⟨g, hg, hX2⟩ := du_amp hf HX.out hlt h38
        have HX2 := Lib.hid hX2
        have e38 : ((t[k].toNat : Nat) : Int) = 38 := by rw [h38]; rfl
        have g60 : ((t[k].toNat : Int) == 60) = false := u8_ne h60
        clear h60 h38 HX hf hX2
        go_wp2
        go_loopw [8] (fun q wr2 => ∃ m : Nat, q = .int .i64 m ∧ k + 1 ≤ m ∧ m ≤ t.size ∧ Hid (Sofar t (k + 1) m) ∧ wr2 = wr) (fun q _ => t.size - (intOf q).toNat)
        case atStart => exact ⟨k + 1, by go_num, Nat.le_refl _, by omega, Lib.hid (sofar_start _), rfl⟩
        case round =>
          obtain ⟨m, rfl, hkm, hmt, hso, rfl⟩ := hrel
          by_cases hml : m < t.size
          · have hmli : (m : Int) < t.size := by omega
            by_cases m59 : t[m] = 59
            · have hdr := sofar_semi hso.out hml m59
              have e59 : ((t[m].toNat : Nat) : Int) = 59 := by rw [m59]; rfl
              have ksl := slice_mid t (k + 1) m hkm hmt
              obtain ⟨y, hy⟩ : ∃ y, y = t.extract (k + 1) m := ⟨_, rfl⟩
              have hyd : y.data.toList = (t.data.toList.take m).drop (k + 1) := by rw [hy, ext_data]
              have hys : y.size ≤ 1048576 := by rw [hy]; simp; omega
              rw [← hy] at ksl
              have ksl2 : ∀ w, (Instr.slice 9 (.string t) (some (.int .i64 ((k : Int) + 1))) (some (.int .i64 (m : Int))) none).run Tryd.prog w = .ok (.string y) w := fun w => by have := ksl w; rwa [Int.natCast_add] at this
              have hn := fun w => rnamed_any y hys w
              rw [hyd] at hn
              obtain ⟨Y, hY⟩ : ∃ Y, Y = dnam ((t.data.toList.take m).drop (k + 1)) := ⟨_, rfl⟩
              rw [← hY] at hn hdr
              have hX3 := HX2.out
              rw [hdr] at hX3
              cases Y with
              | none =>
                have HN := Lib.hid (show X = none from hX3)
                have HNM := Lib.hid hn
                clear hn hdr hX3 hY hyd hys ksl m59 hso hy HX2
                go_wp2_with (go_at_call 39; ((with_reducible refine (HNM.out _).mono ?_); rintro e w1 ⟨v, rfl, hb1, -⟩; simp only [namV]))
                go_ret2
                exact ⟨by rw [HN.out]; rfl, by have := (hb.later hb1).2.1; rw [HB.out] at this; exact this⟩
              | some R =>
                have HN := Lib.hid (show X = du g (t.data.toList.drop (m + 1)) (acc ++ R) from hX3)
                have HNM := Lib.hid hn
                have hRl := dnam_len hY.symm
                clear hn hdr hX3 hY hyd hys ksl m59 hso hy HX2
                go_wp2_with (first
                  | (go_at_call 39; ((with_reducible refine (HNM.out _).mono ?_); rintro e w1 ⟨v, rfl, hb1, hsrc⟩; simp only [namV]; have hb2 := hb.later hb1; have hs2 := hsrc _ rfl; clear hsrc hb1))
                  | (at_builtin; refine append_src rfl _ _ rfl rfl rfl hb2 hs2 (by omega) ?_; intro _ _ hb))
                go_roundw
                case rel => exact ⟨m + 1, g, acc ++ R, by omega, by rw [List.length_append]; omega, by go_num, by omega, Lib.hid hb, HN⟩
                case measure => simp [intOf]; omega
            by_cases m38 : t[m] = 38
            · have HN := Lib.hid (show X = none by rw [HX2.out, sofar_amp hso.out hml m38]; rfl)
              have e38 : ((t[m].toNat : Nat) : Int) = 38 := by rw [m38]; rfl
              clear m38 m59 hso HX2
              go_wp2
              go_ret2
              exact ⟨by rw [HN.out]; rfl, by have := hb.2.1; rw [HB.out] at this; exact this⟩
            have HS := Lib.hid (sofar_step hso.out hkm hml m59 m38)
            have g59 : ((t[m].toNat : Int) == 59) = false := u8_ne m59
            have g38 : ((t[m].toNat : Int) == 38) = false := u8_ne m38
            have n59 : ((t[m].toNat : Int) != 59) = true := by rw [bne, g59]; rfl
            have n38 : ((t[m].toNat : Int) != 38) = true := by rw [bne, g38]; rfl
            clear m38 m59 hso
            go_wp2
            go_roundw
            case rel => exact ⟨m + 1, by go_num, by omega, by omega, HS, trivial⟩
            case measure => simp [intOf]; omega
          · obtain rfl : m = t.size := by omega
            have HN := Lib.hid (show X = none by rw [HX2.out, sofar_end hso.out]; rfl)
            clear hso HX2
            go_wp2
            go_ret2
            exact ⟨by rw [HN.out]; rfl, by have := hb.2.1; rw [HB.out] at this; exact this⟩
      · obtain ⟨g, hg, hX2⟩ := du_other hf HX.out hlt h60 h38
        have HX2 := Lib.hid hX2
        have g60 : ((t[k].toNat : Int) == 60) = false := u8_ne h60
        have g38 : ((t[k].toNat : Int) == 38) = false := u8_ne h38
        have n38 : ((t[k].toNat : Int) != 38) = true := by rw [bne, g38]; rfl
        clear h60 h38 HX hf hX2
        go_wp2_with (at_builtin; refine Lib.wpList_append_byte rfl _ _ 57 rfl B 5 i0 Tryd.underlying57 hi hz0 hz1 hz2 _ _ _ rfl w _ _ (by assumption) rfl (by omega) ?_; intro _ _ hb)
        go_roundw
        case rel => exact ⟨k + 1, g, acc ++ [t[k]], by omega, by rw [List.length_append]; simp only [List.length_cons, List.length_nil]; omega, by go_num, hg, Lib.hid (Buf.congr hb (by rw [List.length_append]; rfl) (bytes_snoc _ _)), HX2⟩
        case measure => simp [intOf]; omega
    · obtain rfl : k = t.size := by omega
      have hX2 := HX.out
      rw [drop_end] at hX2
      have HN := Lib.hid (du_end (by omega) hX2)
      have hcv := hb.conv
      clear hX2 HX
      go_wp2
      go_ret2
      exact ⟨by rw [HN.out]; rfl, by have := hb.2.1; rw [HB.out] at this; exact this⟩
end Go.Proofs.YtgmfggflbcegjaaDoor
