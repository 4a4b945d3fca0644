/-
  Unescape's machine.
-/
import Derived.Test.YtgmfggflbcegjaaDoorUneSt
import Derived.Test.YtgmfggflbcegjaaDoorCuts
import Derived.Test.YtgmfggflbcegjaaDoorDu
namespace Go.Proofs.YtgmfggflbcegjaaDoor
open Go.RowKit Txt
attribute [local go_sem] setCell_drewN cell?_ext frozen?_ext shape?_ext setCell_ext lt_1' ne_1' en_1' le_1' lt_2' ne_2' en_2' le_2' lt_3' ne_3' en_3' le_3' lt_4' ne_4' en_4' le_4' lt_5' ne_5' en_5' le_5' lt_6' ne_6' en_6' le_6' lt_7' ne_7' en_7' le_7' lt_8' ne_8' en_8' le_8' lt_9' ne_9' en_9' le_9' lt_10' ne_10' en_10' le_10' lt_11' ne_11' en_11' le_11' lt_12' ne_12' en_12' le_12'

def kOf12 (a : Act) : Nat := match a.tmps.getD 12 undef with | .int _ q => q.toNat | _ => 0
/-- how far Unescape's machine over a text of n bytes is from its end -/
def far12 (n l : Nat) (a : Act) : Nat := if l = 1 then 0 else 4 * (n - kOf12 a) + (if l = 3 ∨ l = 4 then 2 else 1)
/-- what holds at each of the machine's labels -/
def JE (s : ByteArray) (attr : Bool) (X : Option (List UInt8)) (B : Nat) (w : World) (l : Nat) (a' : Act) (wr : World) : Prop :=
  ∃ (v : Value) (k : Nat) (acc : List UInt8) (base code : Int) (u2 u3 u7 u10 u11 u13 u14 u15 u16 u17 u18 u19 u20 u21 u22 u23 u24 u25 u26 u27 u28 u29 u30 u31 u32 u33 u34 u35 u36 u37 u38 u39 u40 u41 u42 u43 u44 u45 u46 u47 u48 u49 u50 u51 u52 u53 u54 u55 u56 u57 u58 u59 u60 u61 u62 u63 u64 u65 u66 u67 u68 u69 u70 u71 u72 u73 u74 u75 u76 u77 u78 u79 u80 u81 u82 u83 u84 u85 u86 u87 u88 u89 u90 u91 u92 u93 u94 u95 u96 u97 u98 u99 u100 u101 u102 u103 u104 u105 u106 u107 u108 u109 u110 u111 u112 u113 u114 : Value), a' = { tmps := #[.string s, .bool attr, u2, u3, .string { data := #[] }, .int .i64 0, v, u7, .int .i64 base, .int .i64 code, u10, u11, .int .i64 (k : Int), u13, u14, u15, u16, u17, u18, u19, u20, u21, u22, u23, u24, u25, u26, u27, u28, u29, u30, u31, u32, u33, u34, u35, u36, u37, u38, u39, u40, u41, u42, u43, u44, u45, u46, u47, u48, u49, u50, u51, u52, u53, u54, u55, u56, u57, u58, u59, u60, u61, u62, u63, u64, u65, u66, u67, u68, u69, u70, u71, u72, u73, u74, u75, u76, u77, u78, u79, u80, u81, u82, u83, u84, u85, u86, u87, u88, u89, u90, u91, u92, u93, u94, u95, u96, u97, u98, u99, u100, u101, u102, u103, u104, u105, u106, u107, u108, u109, u110, u111, u112, u113, u114], defers := [] } ∧ (l ≠ 1 → k ≤ s.size) ∧ acc.length ≤ 4 * k ∧ (l = 3 → acc.length + 1 ≤ 4 * k) ∧ Hid (Buf B v acc w wr) ∧ Hid (SE s attr X l k acc base code)
theorem pre_len {l p : List UInt8} (h : Lib.hasPrefix l p = true) : p.length ≤ l.length := (List.isPrefixOf_iff_prefix.1 h).length_le
set_option maxRecDepth 100000 in
set_option maxHeartbeats 16000000 in
theorem unescape_machine (s : ByteArray) (attr : Bool) (hs : s.size ≤ 17592186044416) (X : Option (List UInt8)) (hX : X = une attr (s.size + 1) s.data.toList []) (w : World) :
    Calls Tryd.prog 37 #[.string s, .bool attr] w fun e w' => e = .returned (ansX X) ∧ Below w.heap.size w w' := by
  obtain ⟨i0, hi, hz0, hz1, hz2⟩ := info_parts infoByte
  obtain ⟨B, hB⟩ : ∃ B, B = w.heap.size := ⟨_, rfl⟩
  have HB := Lib.hid hB
  have HX := Lib.hid hX
  clear hB hX
  go_enter Tryd.func37, Tryd.ntmps37
  go_wp2
  refine wp_labels2 (JE s attr X B w) (fun l a' _ => far12 s.size l a') ?_ ?_
  · rintro l a' wr ⟨v, k, acc, base, code, u2, u3, u7, u10, u11, u13, u14, u15, u16, u17, u18, u19, u20, u21, u22, u23, u24, u25, u26, u27, u28, u29, u30, u31, u32, u33, u34, u35, u36, u37, u38, u39, u40, u41, u42, u43, u44, u45, u46, u47, u48, u49, u50, u51, u52, u53, u54, u55, u56, u57, u58, u59, u60, u61, u62, u63, u64, u65, u66, u67, u68, u69, u70, u71, u72, u73, u74, u75, u76, u77, u78, u79, u80, u81, u82, u83, u84, u85, u86, u87, u88, u89, u90, u91, u92, u93, u94, u95, u96, u97, u98, u99, u100, u101, u102, u103, u104, u105, u106, u107, u108, u109, u110, u111, u112, u113, u114, rfl, hk, hl, h3l, hb0, hst⟩
    have hb := hb0.out
    rcases hst.out with ⟨rfl, h⟩ | ⟨rfl, h⟩ | ⟨rfl, h⟩ | ⟨rfl, h⟩ | ⟨rfl, hbs, h0, h1, h⟩ | ⟨rfl, hd, h0, h1, h⟩
    · refine ⟨_, rfl, ?_⟩
      have hk := hk (by decide)
      clear hst h3l
      obtain ⟨f, hf, h⟩ := h
      by_cases hlt : k < s.size
      · have hlti : (k : Int) < s.size := by omega
        have hnei : ((k : Int) == (s.size : Int)) = false := by simp; omega
        by_cases h60 : s[k] = 60
        · have H2 := Lib.hid (se0_less hf h hlt h60)
          have e60 : ((s[k].toNat : Nat) : Int) = 60 := by rw [h60]; rfl
          clear h h60 hf
          go_wp2
          go_step3
          go_wp2
          refine ⟨⟨_, (k + 1), acc, _, _, _, _, _, _, _, _, _, _, _, _, _, _, _, _, _, _, _, _, _, _, _, _, _, _, _, _, _, _, _, _, _, _, _, _, _, _, _, _, _, _, _, _, _, _, _, _, _, _, _, _, _, _, _, _, _, _, _, _, _, _, _, _, _, _, _, _, _, _, _, _, _, _, _, _, _, _, _, _, _, _, _, _, _, _, _, _, _, _, _, _, _, _, _, _, _, _, _, _, _, _, _, _, _, _, _, _, _, rfl, fun h => absurd rfl h, by omega, fun h => absurd h (by decide), Lib.hid (hb0.out), Lib.hid (H2.out _ _ _ _)⟩, ?_⟩
          simp [far12, kOf12]
          try omega
        by_cases h38 : s[k] = 38
        · have H2 := Lib.hid (fun b c => se0_amp hf h hlt h38 b c)
          have e38 : ((s[k].toNat : Nat) : Int) = 38 := by rw [h38]; rfl
          clear h h60 h38 hf
          go_wp2
          go_step3
          go_wp2
          refine ⟨⟨_, k + 1, acc, _, _, _, _, _, _, _, _, _, _, _, _, _, _, _, _, _, _, _, _, _, _, _, _, _, _, _, _, _, _, _, _, _, _, _, _, _, _, _, _, _, _, _, _, _, _, _, _, _, _, _, _, _, _, _, _, _, _, _, _, _, _, _, _, _, _, _, _, _, _, _, _, _, _, _, _, _, _, _, _, _, _, _, _, _, _, _, _, _, _, _, _, _, _, _, _, _, _, _, _, _, _, _, _, _, _, _, _, _, rfl, fun _ => by omega, by omega, fun h => absurd h (by decide), Lib.hid (hb0.out), Lib.hid (H2.out _ _)⟩, ?_⟩
          simp [far12, kOf12]
          try omega
        by_cases h13 : s[k] = 13
        · have H2 := Lib.hid (fun b c => se0_line hf h hlt h13 b c)
          have e13 : ((s[k].toNat : Nat) : Int) = 13 := by rw [h13]; rfl
          clear h h60 h38 h13 hf
          go_wp2
          go_step3
          go_wp2
          refine ⟨⟨_, k + 1, acc, _, _, _, _, _, _, _, _, _, _, _, _, _, _, _, _, _, _, _, _, _, _, _, _, _, _, _, _, _, _, _, _, _, _, _, _, _, _, _, _, _, _, _, _, _, _, _, _, _, _, _, _, _, _, _, _, _, _, _, _, _, _, _, _, _, _, _, _, _, _, _, _, _, _, _, _, _, _, _, _, _, _, _, _, _, _, _, _, _, _, _, _, _, _, _, _, _, _, _, _, _, _, _, _, _, _, _, _, _, rfl, fun _ => by omega, by omega, fun _ => by omega, Lib.hid (hb0.out), Lib.hid (H2.out _ _)⟩, ?_⟩
          simp [far12, kOf12]
          try omega
        have H2 := Lib.hid (fun b c => se0_take hf h hlt h60 h38 h13 b c)
        have g1 : ((s[k].toNat : Int) == 60) = false := u8_ne h60
        have g2 : ((s[k].toNat : Int) == 38) = false := u8_ne h38
        have g3 : ((s[k].toNat : Int) == 13) = false := u8_ne h13
        have hs1 := fun w => blank_any s[k] attr w
        obtain ⟨z, hz⟩ : ∃ z, z = bl attr s[k] := ⟨_, rfl⟩
        rw [← hz] at hs1 H2
        have HS := Lib.hid hs1
        clear h h60 h38 h13 hf hz hs1
        go_wp2_with (first | (go_at_call 65; ((with_reducible refine (HS.out _).mono ?_); rintro e w' ⟨rfl, rfl⟩)) | (at_builtin; refine Lib.wpList_append_byte rfl _ _ 57 rfl B 5 i0 Tryd.underlying57 hi hz0 hz1 hz2 _ _ _ rfl w _ _ (by assumption) rfl (by omega) ?_; intro _ _ hb))
        go_step3
        go_wp2
        refine ⟨⟨_, k + 1, (acc ++ [z]), _, _, _, _, _, _, _, _, _, _, _, _, _, _, _, _, _, _, _, _, _, _, _, _, _, _, _, _, _, _, _, _, _, _, _, _, _, _, _, _, _, _, _, _, _, _, _, _, _, _, _, _, _, _, _, _, _, _, _, _, _, _, _, _, _, _, _, _, _, _, _, _, _, _, _, _, _, _, _, _, _, _, _, _, _, _, _, _, _, _, _, _, _, _, _, _, _, _, _, _, _, _, _, _, _, _, _, _, _, rfl, fun _ => by omega, by rw [List.length_append]; simp only [List.length_cons, List.length_nil]; omega, fun h => absurd h (by decide), Lib.hid (Buf.congr hb (by rw [List.length_append]; rfl) (by rw [bytes_snoc])), Lib.hid (H2.out _ _)⟩, ?_⟩
        simp [far12, kOf12]
        try omega
      · obtain rfl : k = s.size := by omega
        have HXX := Lib.hid (se0_end hf h)
        have hcv := hb.conv
        clear h hf
        go_wp2
        go_ret2
        exact ⟨by rw [HXX.out]; rfl, by have := hb.2.1; rw [HB.out] at this; exact this⟩
    · refine ⟨_, rfl, ?_⟩
      go_wp2
      go_ret2
      exact ⟨by rw [h]; rfl, by have := hb.2.1; rw [HB.out] at this; exact this⟩
    · refine ⟨_, rfl, ?_⟩
      have hk := hk (by decide)
      clear hst h3l
      obtain ⟨f, hf, h⟩ := h
      have ksl := slice_from s k hk
      obtain ⟨x, hx⟩ : ∃ x, x = s.extract k s.size := ⟨_, rfl⟩
      have hxd : x.data.toList = s.data.toList.drop k := by rw [hx, ext_data, List.take_of_length_le (by simp)]
      have hll : (s.data.toList.drop k).length = s.size - k := by simp
      rw [← hx] at ksl
      clear hx
      by_cases hp : Lib.hasPrefix (s.data.toList.drop k) [35, 120] = true
      · have H2 := Lib.hid (se2_hex hf h hp)
        have hp2 := pre_len hp
        have hk2 : k + 2 ≤ s.size := by simp only [List.length_cons, List.length_nil] at hp2; omega
        have kp : ∀ w, Calls Tryd.prog 66 #[.string x, .string { data := #[35, 120] }] w fun e w' => e = .returned (.bool true) ∧ w = w' := fun w => (Tryd.strings_HasPrefix x { data := #[35, 120] } w).mono fun _ _ h => ⟨h.1.trans (by rw [hxd]; exact congrArg (fun b => Ending.returned (.bool b)) hp), h.2.symm⟩
        have KP := Lib.hid kp
        clear kp hp hxd hp2 hll h hf
        go_wp2_with (first | (go_at_call 66; ((with_reducible refine (KP.out _).mono ?_); rintro e w' ⟨rfl, rfl⟩)))
        go_step3
        go_wp2
        refine ⟨⟨_, k + 2, acc, 16, 0, _, _, _, _, _, _, _, _, _, _, _, _, _, _, _, _, _, _, _, _, _, _, _, _, _, _, _, _, _, _, _, _, _, _, _, _, _, _, _, _, _, _, _, _, _, _, _, _, _, _, _, _, _, _, _, _, _, _, _, _, _, _, _, _, _, _, _, _, _, _, _, _, _, _, _, _, _, _, _, _, _, _, _, _, _, _, _, _, _, _, _, _, _, _, _, _, _, _, _, _, _, _, _, _, _, _, _, rfl, fun _ => by omega, by omega, fun h => absurd h (by decide), Lib.hid (hb0.out), Lib.hid (H2.out)⟩, ?_⟩
        simp [far12, kOf12]
        try omega
      have kp : ∀ w, Calls Tryd.prog 66 #[.string x, .string { data := #[35, 120] }] w fun e w' => e = .returned (.bool false) ∧ w = w' := fun w => (Tryd.strings_HasPrefix x { data := #[35, 120] } w).mono fun _ _ h => ⟨h.1.trans (by rw [hxd]; exact congrArg (fun b => Ending.returned (.bool b)) (Bool.eq_false_iff.2 hp)), h.2.symm⟩
      have KP := Lib.hid kp
      by_cases hq : Lib.hasPrefix (s.data.toList.drop k) [35] = true
      · have H2 := Lib.hid (se2_dec hf h hp hq)
        have hp2 := pre_len hq
        have hk2 : k + 1 ≤ s.size := by simp only [List.length_cons, List.length_nil] at hp2; omega
        have kq : ∀ w, Calls Tryd.prog 66 #[.string x, .string { data := #[35] }] w fun e w' => e = .returned (.bool true) ∧ w = w' := fun w => (Tryd.strings_HasPrefix x { data := #[35] } w).mono fun _ _ h => ⟨h.1.trans (by rw [hxd]; exact congrArg (fun b => Ending.returned (.bool b)) hq), h.2.symm⟩
        have KQ := Lib.hid kq
        clear kp kq hp hq hxd hp2 hll h hf
        go_wp2_with (first | (go_at_call 66; ((with_reducible refine (KP.out _).mono ?_); rintro e w' ⟨rfl, rfl⟩)) | (go_at_call 66; ((with_reducible refine (KQ.out _).mono ?_); rintro e w' ⟨rfl, rfl⟩)))
        go_step3
        go_wp2
        refine ⟨⟨_, k + 1, acc, 10, 0, _, _, _, _, _, _, _, _, _, _, _, _, _, _, _, _, _, _, _, _, _, _, _, _, _, _, _, _, _, _, _, _, _, _, _, _, _, _, _, _, _, _, _, _, _, _, _, _, _, _, _, _, _, _, _, _, _, _, _, _, _, _, _, _, _, _, _, _, _, _, _, _, _, _, _, _, _, _, _, _, _, _, _, _, _, _, _, _, _, _, _, _, _, _, _, _, _, _, _, _, _, _, _, _, _, _, _, rfl, fun _ => by omega, by omega, fun h => absurd h (by decide), Lib.hid (hb0.out), Lib.hid (H2.out)⟩, ?_⟩
        simp [far12, kOf12]
        try omega
      have kq : ∀ w, Calls Tryd.prog 66 #[.string x, .string { data := #[35] }] w fun e w' => e = .returned (.bool false) ∧ w = w' := fun w => (Tryd.strings_HasPrefix x { data := #[35] } w).mono fun _ _ h => ⟨h.1.trans (by rw [hxd]; exact congrArg (fun b => Ending.returned (.bool b)) (Bool.eq_false_iff.2 hq)), h.2.symm⟩
      have KQ := Lib.hid kq
      have kn := fun w => named_any x w
      rw [hxd] at kn
      have hns := nm_size (s.data.toList.drop k)
      rw [hll] at hns
      obtain ⟨z, hz⟩ : ∃ z, z = (nm (s.data.toList.drop k)).2 := ⟨_, rfl⟩
      obtain ⟨y, hy⟩ : ∃ y, y = (nm (s.data.toList.drop k)).1 := ⟨_, rfl⟩
      by_cases hz0' : z = 0
      · have H2 := Lib.hid (se2_none h hp hq (hz.symm.trans hz0'))
        rw [← hz, ← hy, hz0'] at kn
        have KN := Lib.hid kn
        clear kp kq kn hp hq hxd hll h hf hns hy hz hz0'
        go_wp2_with (first | (go_at_call 66; ((with_reducible refine (KP.out _).mono ?_); rintro e w' ⟨rfl, rfl⟩)) | (go_at_call 66; ((with_reducible refine (KQ.out _).mono ?_); rintro e w' ⟨rfl, rfl⟩)) | (go_at_call 67; ((with_reducible refine (KN.out _).mono ?_); rintro e w' ⟨rfl, rfl⟩)))
        go_step3
        go_wp2
        refine ⟨⟨_, k, acc, _, _, _, _, _, _, _, _, _, _, _, _, _, _, _, _, _, _, _, _, _, _, _, _, _, _, _, _, _, _, _, _, _, _, _, _, _, _, _, _, _, _, _, _, _, _, _, _, _, _, _, _, _, _, _, _, _, _, _, _, _, _, _, _, _, _, _, _, _, _, _, _, _, _, _, _, _, _, _, _, _, _, _, _, _, _, _, _, _, _, _, _, _, _, _, _, _, _, _, _, _, _, _, _, _, _, _, _, _, rfl, fun h => absurd rfl h, by omega, fun h => absurd h (by decide), Lib.hid (hb0.out), Lib.hid (H2.out _ _ _ _)⟩, ?_⟩
        simp [far12, kOf12]
        try omega
      · have h2 := fun b c => se2_named hf h hp hq (by rw [← hz]; exact hz0') b c
        rw [← hz, ← hy] at kn h2
        rw [← hz] at hns
        have KN := Lib.hid kn
        have H2 := Lib.hid h2
        have hzi : ((z : Int) == 0) = false := by simp; omega
        have hz1' : 1 ≤ z := by omega
        clear kp kq kn hp hq hxd hll h hf hy hz h2 hz0'
        go_wp2_with (first | (go_at_call 66; ((with_reducible refine (KP.out _).mono ?_); rintro e w' ⟨rfl, rfl⟩)) | (go_at_call 66; ((with_reducible refine (KQ.out _).mono ?_); rintro e w' ⟨rfl, rfl⟩)) | (go_at_call 67; ((with_reducible refine (KN.out _).mono ?_); rintro e w' ⟨rfl, rfl⟩)) | (at_builtin; refine Lib.wpList_append_byte rfl _ _ 57 rfl B 5 i0 Tryd.underlying57 hi hz0 hz1 hz2 _ _ _ rfl w _ _ (by assumption) rfl (by omega) ?_; intro _ _ hb))
        go_step3
        go_wp2
        refine ⟨⟨_, k + z, (acc ++ [y]), _, _, _, _, _, _, _, _, _, _, _, _, _, _, _, _, _, _, _, _, _, _, _, _, _, _, _, _, _, _, _, _, _, _, _, _, _, _, _, _, _, _, _, _, _, _, _, _, _, _, _, _, _, _, _, _, _, _, _, _, _, _, _, _, _, _, _, _, _, _, _, _, _, _, _, _, _, _, _, _, _, _, _, _, _, _, _, _, _, _, _, _, _, _, _, _, _, _, _, _, _, _, _, _, _, _, _, _, _, rfl, fun _ => by omega, by rw [List.length_append]; simp only [List.length_cons, List.length_nil]; omega, fun h => absurd h (by decide), Lib.hid (Buf.congr hb (by rw [List.length_append]; rfl) (by rw [bytes_snoc])), Lib.hid (H2.out _ _)⟩, ?_⟩
        simp [far12, kOf12]
        try omega
    · refine ⟨_, rfl, ?_⟩
      have hk := hk (by decide)
      have h3l := h3l rfl
      clear hst
      obtain ⟨f, hf, h⟩ := h
      by_cases hc : ∃ hlt : k < s.size, s[k] = 10
      · obtain ⟨hlt, hc⟩ := hc
        have hlti : (k : Int) < s.size := by omega
        have hnei : ((k : Int) == (s.size : Int)) = false := by simp; omega
        have e10 : ((s[k].toNat : Nat) : Int) = 10 := by rw [hc]; rfl
        have H2 := Lib.hid (fun b c => se3_next hf h hlt hc b c)
        clear h hf hc
        go_wp2
        go_step3
        go_wp2
        refine ⟨⟨_, k, acc, _, _, _, _, _, _, _, _, _, _, _, _, _, _, _, _, _, _, _, _, _, _, _, _, _, _, _, _, _, _, _, _, _, _, _, _, _, _, _, _, _, _, _, _, _, _, _, _, _, _, _, _, _, _, _, _, _, _, _, _, _, _, _, _, _, _, _, _, _, _, _, _, _, _, _, _, _, _, _, _, _, _, _, _, _, _, _, _, _, _, _, _, _, _, _, _, _, _, _, _, _, _, _, _, _, _, _, _, _, rfl, fun _ => by omega, by omega, fun h => absurd h (by decide), Lib.hid (hb0.out), Lib.hid (H2.out _ _)⟩, ?_⟩
        simp [far12, kOf12]
        try omega
      have hcc : ∀ hk : k < s.size, ¬ s[k] = 10 := fun hk h => hc ⟨hk, h⟩
      have h2 := fun b c => se3_put hf h hcc b c
      have hs1 := fun w => blank_any 10 attr w
      obtain ⟨z, hz⟩ : ∃ z, z = bl attr 10 := ⟨_, rfl⟩
      rw [← hz] at hs1 h2
      have hs2 : ∀ w, Calls Tryd.prog 65 #[.int .u8 10, .bool attr] w fun e w' => e = .returned (.int .u8 (z.toNat : Int)) ∧ w = w' := hs1
      have HS := Lib.hid hs2
      have H2 := Lib.hid h2
      clear hz hs1 hs2 h2 h hf hc
      by_cases hlt : k < s.size
      · have hlti : (k : Int) < s.size := by omega
        have hnei : ((k : Int) == (s.size : Int)) = false := by simp; omega
        have g1 : ((s[k].toNat : Int) == 10) = false := u8_ne (hcc hlt)
        have g2 : ((s[k].toNat : Int) != 10) = true := by rw [bne, g1]; rfl
        clear hcc
        go_wp2_with (first | (go_at_call 65; ((with_reducible refine (HS.out _).mono ?_); rintro e w' ⟨rfl, rfl⟩)) | (at_builtin; refine Lib.wpList_append_byte rfl _ _ 57 rfl B 5 i0 Tryd.underlying57 hi hz0 hz1 hz2 _ _ _ rfl w _ _ (by assumption) rfl (by omega) ?_; intro _ _ hb))
        go_step3
        go_wp2
        refine ⟨⟨_, k, (acc ++ [z]), _, _, _, _, _, _, _, _, _, _, _, _, _, _, _, _, _, _, _, _, _, _, _, _, _, _, _, _, _, _, _, _, _, _, _, _, _, _, _, _, _, _, _, _, _, _, _, _, _, _, _, _, _, _, _, _, _, _, _, _, _, _, _, _, _, _, _, _, _, _, _, _, _, _, _, _, _, _, _, _, _, _, _, _, _, _, _, _, _, _, _, _, _, _, _, _, _, _, _, _, _, _, _, _, _, _, _, _, _, rfl, fun _ => by omega, by rw [List.length_append]; simp only [List.length_cons, List.length_nil]; omega, fun h => absurd h (by decide), Lib.hid (Buf.congr hb (by rw [List.length_append]; rfl) (by rw [bytes_snoc])), Lib.hid (H2.out _ _)⟩, ?_⟩
        simp [far12, kOf12]
        try omega
      · obtain rfl : k = s.size := by omega
        clear hcc
        go_wp2_with (first | (go_at_call 65; ((with_reducible refine (HS.out _).mono ?_); rintro e w' ⟨rfl, rfl⟩)) | (at_builtin; refine Lib.wpList_append_byte rfl _ _ 57 rfl B 5 i0 Tryd.underlying57 hi hz0 hz1 hz2 _ _ _ rfl w _ _ (by assumption) rfl (by omega) ?_; intro _ _ hb))
        go_step3
        go_wp2
        refine ⟨⟨_, s.size, (acc ++ [z]), _, _, _, _, _, _, _, _, _, _, _, _, _, _, _, _, _, _, _, _, _, _, _, _, _, _, _, _, _, _, _, _, _, _, _, _, _, _, _, _, _, _, _, _, _, _, _, _, _, _, _, _, _, _, _, _, _, _, _, _, _, _, _, _, _, _, _, _, _, _, _, _, _, _, _, _, _, _, _, _, _, _, _, _, _, _, _, _, _, _, _, _, _, _, _, _, _, _, _, _, _, _, _, _, _, _, _, _, _, rfl, fun _ => by omega, by rw [List.length_append]; simp only [List.length_cons, List.length_nil]; omega, fun h => absurd h (by decide), Lib.hid (Buf.congr hb (by rw [List.length_append]; rfl) (by rw [bytes_snoc])), Lib.hid (H2.out _ _)⟩, ?_⟩
        simp [far12, kOf12]
        try omega
    · refine ⟨_, rfl, ?_⟩
      have hk := hk (by decide)
      clear hst h3l
      obtain ⟨f, hf, h⟩ := h
      by_cases hlt : k < s.size
      · have hlti : (k : Int) < s.size := by omega
        have hnei : ((k : Int) == (s.size : Int)) = false := by simp; omega
        have hs1 := fun w => digitOf_any s[k].toNat s[k].toNat_lt w
        have hz0' := dgt_nonneg s[k].toNat
        have hz1' := dgt_le s[k].toNat
        by_cases hd : dgt s[k].toNat < base
        · have h2 := se4_digit hbs h0 hf h hlt hd hz0'
          obtain ⟨z, hz⟩ : ∃ z, z = dgt s[k].toNat := ⟨_, rfl⟩
          rw [← hz] at h2 hd hz0' hz1' hs1
          have HS := Lib.hid hs1
          have H2 := Lib.hid h2
          clear h h2 hf hz hs1
          rcases hbs with rfl | rfl
          all_goals
            go_wp2_with (first | (go_at_call 68; ((with_reducible refine (HS.out _).mono ?_); rintro e w' ⟨rfl, rfl⟩)))
            go_step3
            go_wp2
            refine ⟨⟨_, k + 1, acc, _, _, _, _, _, _, _, _, _, _, _, _, _, _, _, _, _, _, _, _, _, _, _, _, _, _, _, _, _, _, _, _, _, _, _, _, _, _, _, _, _, _, _, _, _, _, _, _, _, _, _, _, _, _, _, _, _, _, _, _, _, _, _, _, _, _, _, _, _, _, _, _, _, _, _, _, _, _, _, _, _, _, _, _, _, _, _, _, _, _, _, _, _, _, _, _, _, _, _, _, _, _, _, _, _, _, _, _, _, rfl, fun _ => by omega, by omega, fun h => absurd h (by decide), Lib.hid (hb0.out), Lib.hid (H2.out)⟩, ?_⟩
            simp [far12, kOf12]
            try omega
        · have h2 := se4_stop h0 h1 hf h hlt hd
          obtain ⟨z, hz⟩ : ∃ z, z = dgt s[k].toNat := ⟨_, rfl⟩
          rw [← hz] at hd hz0' hz1' hs1
          have HS := Lib.hid hs1
          have H2 := Lib.hid h2
          have hd2 : base ≤ z := by omega
          clear h h2 hf hz hs1
          go_wp2_with (first | (go_at_call 68; ((with_reducible refine (HS.out _).mono ?_); rintro e w' ⟨rfl, rfl⟩)))
          go_step3
          go_wp2
          refine ⟨⟨_, k, acc, base, code, _, _, _, _, _, _, _, _, _, _, _, _, _, _, _, _, _, _, _, _, _, _, _, _, _, _, _, _, _, _, _, _, _, _, _, _, _, _, _, _, _, _, _, _, _, _, _, _, _, _, _, _, _, _, _, _, _, _, _, _, _, _, _, _, _, _, _, _, _, _, _, _, _, _, _, _, _, _, _, _, _, _, _, _, _, _, _, _, _, _, _, _, _, _, _, _, _, _, _, _, _, _, _, _, _, _, _, rfl, fun _ => by omega, by omega, fun h => absurd h (by decide), Lib.hid (hb0.out), Lib.hid (H2.out)⟩, ?_⟩
          simp [far12, kOf12]
          try omega
      · obtain rfl : k = s.size := by omega
        have H2 := Lib.hid (se4_end h)
        clear h hf
        go_wp2
        go_step3
        go_wp2
        refine ⟨⟨_, s.size, acc, _, _, _, _, _, _, _, _, _, _, _, _, _, _, _, _, _, _, _, _, _, _, _, _, _, _, _, _, _, _, _, _, _, _, _, _, _, _, _, _, _, _, _, _, _, _, _, _, _, _, _, _, _, _, _, _, _, _, _, _, _, _, _, _, _, _, _, _, _, _, _, _, _, _, _, _, _, _, _, _, _, _, _, _, _, _, _, _, _, _, _, _, _, _, _, _, _, _, _, _, _, _, _, _, _, _, _, _, _, rfl, fun h => absurd rfl h, by omega, fun h => absurd h (by decide), Lib.hid (hb0.out), Lib.hid (H2.out _ _ _ _)⟩, ?_⟩
        simp [far12, kOf12]
        try omega
    · refine ⟨_, rfl, ?_⟩
      have hk := hk (by decide)
      clear hst h3l
      obtain ⟨f, hf, h⟩ := h
      obtain ⟨hlt, hd⟩ := hd
      have hlti : (k : Int) < s.size := by omega
      have hs1 := fun w => allowed_any code w
      by_cases h59 : s[k] = 59
      · have e59 : ((s[k].toNat : Nat) : Int) = 59 := by rw [h59]; rfl
        by_cases ho : okI code = true
        · have H2 := Lib.hid (fun b c => se5_put hf h hlt hd ⟨h59, ho⟩ b c)
          rw [ho] at hs1
          have HS := Lib.hid hs1
          have hel : (Lib.encodeRune code).length ≤ 4 := by simp only [Lib.encodeRune, List.length_map]; exact Lib.encodeRuneZ_length_le code
          obtain ⟨t, ht⟩ : ∃ t, t = Lib.encodeRune code := ⟨_, rfl⟩
          have HA := Lib.hid (fun (wr : World) (hb : Buf B v acc w wr) => appendRune_buf hb code (by omega) (by omega) (by omega))
          rw [← ht] at H2 HA hel
          clear h hf hd h59 ho hs1 ht
          go_wp2_with (first | (go_at_call 64; ((with_reducible refine (HS.out _).mono ?_); rintro e w' ⟨rfl, rfl⟩)) | (go_at_call 69; ((with_reducible refine (HA.out _ hb).mono ?_); rintro e w' ⟨v', rfl, hb⟩)))
          go_step3
          go_wp2
          refine ⟨⟨_, k + 1, (acc ++ t), _, _, _, _, _, _, _, _, _, _, _, _, _, _, _, _, _, _, _, _, _, _, _, _, _, _, _, _, _, _, _, _, _, _, _, _, _, _, _, _, _, _, _, _, _, _, _, _, _, _, _, _, _, _, _, _, _, _, _, _, _, _, _, _, _, _, _, _, _, _, _, _, _, _, _, _, _, _, _, _, _, _, _, _, _, _, _, _, _, _, _, _, _, _, _, _, _, _, _, _, _, _, _, _, _, _, _, _, _, rfl, fun _ => by omega, by rw [List.length_append]; omega, fun h => absurd h (by decide), Lib.hid (hb), Lib.hid (H2.out _ _)⟩, ?_⟩
          simp [far12, kOf12]
          try omega
        · have H2 := Lib.hid (se5_wrong h hlt hd (fun c => ho c.2))
          rw [Bool.eq_false_iff.2 ho] at hs1
          have HS := Lib.hid hs1
          clear h hf hd h59 ho hs1
          go_wp2_with (first | (go_at_call 64; ((with_reducible refine (HS.out _).mono ?_); rintro e w' ⟨rfl, rfl⟩)))
          go_step3
          go_wp2
          refine ⟨⟨_, k, acc, _, _, _, _, _, _, _, _, _, _, _, _, _, _, _, _, _, _, _, _, _, _, _, _, _, _, _, _, _, _, _, _, _, _, _, _, _, _, _, _, _, _, _, _, _, _, _, _, _, _, _, _, _, _, _, _, _, _, _, _, _, _, _, _, _, _, _, _, _, _, _, _, _, _, _, _, _, _, _, _, _, _, _, _, _, _, _, _, _, _, _, _, _, _, _, _, _, _, _, _, _, _, _, _, _, _, _, _, _, rfl, fun h => absurd rfl h, by omega, fun h => absurd h (by decide), Lib.hid (hb0.out), Lib.hid (H2.out _ _ _ _)⟩, ?_⟩
          simp [far12, kOf12]
          try omega
      · have H2 := Lib.hid (se5_wrong h hlt hd (fun c => h59 c.1))
        have g1 : ((s[k].toNat : Int) == 59) = false := u8_ne h59
        have g2 : ((s[k].toNat : Int) != 59) = true := by rw [bne, g1]; rfl
        clear h hf hd h59 hs1
        go_wp2
        go_step3
        go_wp2
        refine ⟨⟨_, k, acc, _, _, _, _, _, _, _, _, _, _, _, _, _, _, _, _, _, _, _, _, _, _, _, _, _, _, _, _, _, _, _, _, _, _, _, _, _, _, _, _, _, _, _, _, _, _, _, _, _, _, _, _, _, _, _, _, _, _, _, _, _, _, _, _, _, _, _, _, _, _, _, _, _, _, _, _, _, _, _, _, _, _, _, _, _, _, _, _, _, _, _, _, _, _, _, _, _, _, _, _, _, _, _, _, _, _, _, _, _, rfl, fun h => absurd rfl h, by omega, fun h => absurd h (by decide), Lib.hid (hb0.out), Lib.hid (H2.out _ _ _ _)⟩, ?_⟩
        simp [far12, kOf12]
        try omega
  · intro hp
    have H2 := Lib.hid (show SE s attr X 0 0 [] 0 0 from .inl ⟨rfl, s.size + 1, by omega, by rw [List.drop_zero]; exact HX.out⟩)
    clear HX
    go_upto_region 5 with fail
    go_step3
    simp only [Exit.then]
    rename_i ha
    refine ha _ _ ?_
    refine hp 0 _ _ ?_ _ rfl
    exact ⟨_, 0, [], _, _, _, _, _, _, _, _, _, _, _, _, _, _, _, _, _, _, _, _, _, _, _, _, _, _, _, _, _, _, _, _, _, _, _, _, _, _, _, _, _, _, _, _, _, _, _, _, _, _, _, _, _, _, _, _, _, _, _, _, _, _, _, _, _, _, _, _, _, _, _, _, _, _, _, _, _, _, _, _, _, _, _, _, _, _, _, _, _, _, _, _, _, _, _, _, _, _, _, _, _, _, _, _, _, _, _, _, _, rfl, fun _ => by omega, Nat.zero_le _, fun h => absurd h (by decide), Lib.hid (by rw [HB.out]; exact Buf.nil w (by (repeat' (first | (with_reducible exact Below.refl _ _) | (with_reducible assumption) | (with_reducible refine Below.alloc ?_ ?_ _) | (with_reducible refine below_drewN ?_ _) | (with_reducible refine below_drew ?_) | (with_reducible refine below_ext ?_ ?_ _ _) | (with_reducible refine Below.setCell ?_ ?_ _) | (simp; done) | (simp; omega) | omega)))), Lib.hid (H2)⟩
end Go.Proofs.YtgmfggflbcegjaaDoor
