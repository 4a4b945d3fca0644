/-
  The lexer's quotations: told.
-/
import Derived.Test.YtonajmngchfjeaaDoorLexF
import Derived.Test.YtonajmngchfjeaaDoorJumps
namespace Go.Proofs.YtonajmngchfjeaaDoor
open Go.RowKit Word
open Lx (Tok)
attribute [local go_sem] setCell_drewN cell?_ext frozen?_ext shape?_ext setCell_ext lt_1' ne_1' en_1' le_1' lt_2' ne_2' en_2' le_2' lt_3' ne_3' en_3' le_3' lt_4' ne_4' en_4' le_4' lt_5' ne_5' en_5' le_5' lt_6' ne_6' en_6' le_6' lt_7' ne_7' en_7' le_7' lt_8' ne_8' en_8' le_8' lt_9' ne_9' en_9' le_9' lt_10' ne_10' en_10' le_10' lt_11' ne_11' en_11' le_11' lt_12' ne_12' en_12' le_12'

theorem quo_none {l : List UInt8} {k : Nat} (h : ¬ k + 1 < l.length) (E : Option Nat) (hE : E = (Lx.quoRest false (l.drop (k + 1))).map (· + (k + 1))) : E = none := by
  rw [hE, List.drop_of_length_le (by omega)]; rfl
theorem quo_drop {l : List UInt8} {k : Nat} (h : k + 1 < l.length) : l.drop (k + 1) = l[k + 1] :: l.drop (k + 2) := List.drop_eq_getElem_cons h
theorem quo_map (x : Option Nat) (k : Nat) : (x.map (· + 1)).map (· + (k + 1)) = x.map (· + (k + 2)) := by
  cases x with
  | none => rfl
  | some y => simp only [Option.map_some]; congr 1; omega
theorem quo_back {l : List UInt8} {k : Nat} (h : k + 1 < l.length) (hc : l[k + 1] = 92) (E : Option Nat) (hE : E = (Lx.quoRest false (l.drop (k + 1))).map (· + (k + 1))) : E = (Lx.quoRest true (l.drop (k + 2))).map (· + (k + 2)) := by
  rw [hE, quo_drop h, Lx.quoRest, if_pos hc, quo_map]
theorem quo_shut {l : List UInt8} {k : Nat} (h : k + 1 < l.length) (hc : l[k + 1] = 34) (E : Option Nat) (hE : E = (Lx.quoRest false (l.drop (k + 1))).map (· + (k + 1))) : E = some (k + 2) := by
  rw [hE, quo_drop h, Lx.quoRest, if_neg (by rw [hc]; decide), if_pos hc]
  simp only [Option.map_some]; congr 1; omega
theorem quo_on {l : List UInt8} {k : Nat} (h : k + 1 < l.length) (h1 : l[k + 1] ≠ 92) (h2 : l[k + 1] ≠ 34) (E : Option Nat) (hE : E = (Lx.quoRest false (l.drop (k + 1))).map (· + (k + 1))) : E = (Lx.quoRest false (l.drop (k + 2))).map (· + (k + 2)) := by
  rw [hE, quo_drop h, Lx.quoRest, if_neg h1, if_neg h2, quo_map]
theorem quo_esc {l : List UInt8} {k : Nat} (E : Option Nat) (hE : E = (Lx.quoRest true (l.drop (k + 1))).map (· + (k + 1))) : E = (Lx.quoRest false (l.drop (k + 2))).map (· + (k + 2)) := by
  by_cases h : k + 1 < l.length
  · rw [hE, quo_drop h, Lx.quoRest, quo_map]
  · rw [hE, List.drop_of_length_le (by omega), List.drop_of_length_le (by omega)]; rfl
def lxAt (w : World) (p : Nat) : Nat := match w.cell? ⟨p, 1, none⟩ with | some (.int _ q) => q.toNat | _ => 0
theorem lxAt_is {W0 w : World} {p : Nat} {s : ByteArray} {a b : Nat} {lv : Value} {ts : List Tok} {ov fr : Bool} (h : Rdr W0 w p s a b lv ts ov fr) : lxAt w p = a := by
  unfold lxAt; rw [h.c1]; rfl
theorem LxSt.bel {W0 w : World} {p : Nat} {f : Nat → Value} {ts : List Tok} (h : LxSt W0 w p f ts) : Below W0.heap.size W0 w := h.buf.2.1
/-- where the machine stands at each label -/
def SQ (s : ByteArray) (E : Option Nat) (l k : Nat) : Prop :=
  (l = 0 ∧ E = (Lx.quoRest false (s.data.toList.drop (k + 1))).map (· + (k + 1))) ∨ (l = 1 ∧ E = (Lx.quoRest true (s.data.toList.drop (k + 1))).map (· + (k + 1)) ∧ k < s.size) ∨ (l = 2 ∧ E = some (k + 1) ∧ k < s.size)
def JQ (s : ByteArray) (E : Option Nat) (W0 : World) (p a b : Nat) (lv : Value) (ts : List Tok) (ov fr : Bool) (l : Nat) (a' : Act) (wr : World) : Prop :=
  ∃ (k : Nat) (u1 u2 u4 u5 u6 u7 u8 u9 u10 u11 u12 u13 u14 u15 u16 u17 u18 u19 u20 u21 u22 u23 u24 u25 u26 u27 u28 u29 u30 u31 u32 u33 u34 u35 u36 u37 u38 u39 u40 u41 u42 u43 u44 u45 u46 u47 u48 u49 u50 u51 u52 u53 u54 u55 u56 u57 u58 u59 u60 u61 u62 u63 u64 u65 u66 u67 u68 u69 u70 u71 : Value), a' = { tmps := #[.pointer (some ⟨p, 0, none⟩), u1, u2, .int .i64 (a : Int), u4, u5, u6, u7, u8, u9, u10, u11, u12, u13, u14, u15, u16, u17, u18, u19, u20, u21, u22, u23, u24, u25, u26, u27, u28, u29, u30, u31, u32, u33, u34, u35, u36, u37, u38, u39, u40, u41, u42, u43, u44, u45, u46, u47, u48, u49, u50, u51, u52, u53, u54, u55, u56, u57, u58, u59, u60, u61, u62, u63, u64, u65, u66, u67, u68, u69, u70, u71], defers := [] } ∧ a ≤ k ∧ k ≤ s.size ∧ Hid (Rdr W0 wr p s k b lv ts ov fr) ∧ Hid (SQ s E l k)
def strTok (t : List UInt8) (b : Nat) : Tok := ⟨2, t, false, 0, 0, 0, b⟩
set_option maxRecDepth 100000 in
set_option maxHeartbeats 16000000 in
theorem quotation_any {W0 : World} {p : Nat} {s : ByteArray} {a b : Nat} {lv : Value} {ts : List Tok} {ov fr : Bool} (t : List UInt8) (eu day ed : Int) (isAt : Bool) (E : Option Nat) (hs : s.size ≤ 1000) (ha : a ≤ s.size) (_hba : b ≤ a) (hb : b < s.size)
    (hN : ∀ j (h : j < s.size), s[j] ≠ 0) (hl : ts.length ≤ 2000) (hA : ((s[b].toNat : Int) == 64) = isAt) (hE : E = (Lx.quoRest false (s.data.toList.drop (a + 1))).map (· + (a + 1))) (hed : ed = 0 ∨ ed = 5 ∨ ed = 17)
    (hU : ∀ k, E = some k → ∀ w', Below W0.heap.size W0 w' → Calls Tryd.prog 25 #[.string ⟨(cutT s a k).toArray⟩] w' fun r w'' => r = .returned (.tuple #[.string ⟨t.toArray⟩, .int .i64 eu]) ∧ Below w'.heap.size w' w'')
    (hD : ∀ w', Below W0.heap.size W0 w' → Calls Tryd.prog 35 #[.string ⟨t.toArray⟩] w' fun r w'' => r = .returned (.tuple #[.int .i64 day, .int .i64 ed]) ∧ Below w'.heap.size w' w'')
    (w : World) (hR : Rdr W0 w p s a b lv ts ov fr) :
    Calls Tryd.prog 18 #[.pointer (some ⟨p, 0, none⟩)] w fun r w' => r = .returned (.bool (E.isSome && (decide (eu = 0) && (!isAt || decide (ed ≠ 5))))) ∧ Below W0.heap.size W0 w' ∧
      ∀ k, E = some k → eu = 0 → (isAt = true → ed ≠ 5) → ∃ lv', Rdr W0 w' p s k b lv' (ts ++ [if isAt = true then dateTok day b else strTok t b]) ov (fr || (isAt && decide (ed = 17))) := by
  have hz : s.data.toList.length = s.size := rfl
  have HE := Lib.hid hE
  have HU := Lib.hid hU
  have HN := Lib.hid hN
  have HR := Lib.hid hR
  have HA := Lib.hid hA
  have HPK : Hid (∀ w k, k ≤ 2000 → Rdr W0 w p s k b lv ts ov fr → Calls Tryd.prog 11 #[.pointer (some ⟨p, 0, none⟩), .int .i64 0] w fun e w' => e = .returned (.int .u8 ((Lx.at0 s.data.toList k).toNat : Int)) ∧ ∃ d, w' = w.drewN d) := Lib.hid (fun w k hk h => peek_any 0 (by decide) hk w h)
  have HDT : Hid (∀ w k, Rdr W0 w p s k b lv ts ov fr → Calls Tryd.prog 26 #[.pointer (some ⟨p, 0, none⟩), .string ⟨t.toArray⟩] w fun r w' => r = .returned (.bool (decide (ed ≠ 5))) ∧
      ∃ lv', Rdr W0 w' p s k b lv' (ts ++ [dateTok day b]) ov (fr || decide (ed = 17))) := Lib.hid (fun w k h => date_told _ day ed hed hl w h fun w' hb => hD w' (h.buf.later hb).2.1)
  have HTK : Hid (∀ w k, Rdr W0 w p s k b lv ts ov fr → Calls Tryd.prog 21 #[.pointer (some ⟨p, 0, none⟩), .agg #[.int .i64 2, .string ⟨t.toArray⟩, .bool false, .int .u64 0, .int .u64 0, .int .i64 0, .int .i64 0, .int .i64 0]] w
      fun e w' => e = .returned (.tuple #[]) ∧ ∃ lv', Rdr W0 w' p s k b lv' (ts ++ [strTok t b]) ov fr) := Lib.hid (fun w k h => by unfold strTok; exact tell_lit 2 t false 0 0 0 hi_nought lo_nought 0 0 hl w h)
  obtain ⟨T, hT⟩ : ∃ T : ByteArray, T = ⟨t.toArray⟩ := ⟨_, rfl⟩
  rw [← hT] at HU HDT HTK
  clear hE hU hN hR hD hed hl hT hA
  go_enter Tryd.func18, Tryd.ntmps18
  go_wp2
  refine wp_labels2 (JQ s E W0 p a b lv ts ov fr) (fun l a' wr => s.size + 1 - lxAt wr p) ?_ ?_
  · rintro l a' wr ⟨k, u1, u2, u4, u5, u6, u7, u8, u9, u10, u11, u12, u13, u14, u15, u16, u17, u18, u19, u20, u21, u22, u23, u24, u25, u26, u27, u28, u29, u30, u31, u32, u33, u34, u35, u36, u37, u38, u39, u40, u41, u42, u43, u44, u45, u46, u47, u48, u49, u50, u51, u52, u53, u54, u55, u56, u57, u58, u59, u60, u61, u62, u63, u64, u65, u66, u67, u68, u69, u70, u71, rfl, hak, hk, hr0, hst⟩
    have W1 : IntKind.i64.wrap ((k : Int) + 1) = (k : Int) + 1 := IntWalk.i64_in _ (by omega)
    have hm := lxAt_is hr0.out
    have HM := Lib.hid hm
    have c0 := hr0.out.c0
    have c1 := hr0.out.c1
    have f1 := hr0.out.free 1 (by decide)
    have RN := Lib.hid (hr0.out.at_ (k + 1) (z := (k : Int) + 1) (by omega))
    clear hm hr0
    rcases hst.out with ⟨rfl, h⟩ | ⟨rfl, h, hlt⟩ | ⟨rfl, h, hlt⟩
    · refine ⟨_, rfl, ?_⟩
      clear hst
      have PK := Lib.hid (fun w => HPK.out w (k + 1) (by omega))
      obtain ⟨z, hzz⟩ : ∃ z : Int, z = ((Lx.at0 s.data.toList (k + 1)).toNat : Int) := ⟨_, rfl⟩
      rw [← hzz] at PK
      by_cases hlt : k + 1 < s.size
      · rw [at0_in hlt] at hzz
        have hne0 : (z == 0) = false := by rw [hzz]; exact u8_ne (k := 0) (HN.out _ hlt)
        by_cases h92 : s[k + 1] = 92
        · have H2 := Lib.hid (quo_back (l := s.data.toList) hlt h92 E h)
          obtain rfl : z = 92 := by rw [hzz, h92]; rfl
          clear h hzz h92
          go_wp2_with (go_at_call 11; ((with_reducible refine (PK.out _ RN.out).mono ?_); rintro e w1 ⟨rfl, d, rfl⟩))
          go_step3
          go_wp2
          refine ⟨⟨k + 1, _, _, _, _, _, _, _, _, _, _, _, _, _, _, _, _, _, _, _, _, _, _, _, _, _, _, _, _, _, _, _, _, _, _, _, _, _, _, _, _, _, _, _, _, _, _, _, _, _, _, _, _, _, _, _, _, _, _, _, _, _, _, _, _, _, _, _, _, _, _, rfl, by omega, by omega, Lib.hid (RN.out.drew d), Lib.hid (.inr (.inl ⟨rfl, H2.out, hlt⟩))⟩, ?_⟩
          have := lxAt_is (RN.out.drew d)
          simp only [HM.out]; omega
        by_cases h34 : s[k + 1] = 34
        · have H2 := Lib.hid (quo_shut (l := s.data.toList) hlt h34 E h)
          obtain rfl : z = 34 := by rw [hzz, h34]; rfl
          clear h hzz h34 h92
          go_wp2_with (go_at_call 11; ((with_reducible refine (PK.out _ RN.out).mono ?_); rintro e w1 ⟨rfl, d, rfl⟩))
          go_step3
          go_wp2
          refine ⟨⟨k + 1, _, _, _, _, _, _, _, _, _, _, _, _, _, _, _, _, _, _, _, _, _, _, _, _, _, _, _, _, _, _, _, _, _, _, _, _, _, _, _, _, _, _, _, _, _, _, _, _, _, _, _, _, _, _, _, _, _, _, _, _, _, _, _, _, _, _, _, _, _, _, rfl, by omega, by omega, Lib.hid (RN.out.drew d), Lib.hid (.inr (.inr ⟨rfl, H2.out, hlt⟩))⟩, ?_⟩
          have := lxAt_is (RN.out.drew d)
          simp only [HM.out]; omega
        have H2 := Lib.hid (quo_on (l := s.data.toList) hlt h92 h34 E h)
        have g1 : (z == 92) = false := by rw [hzz]; exact u8_ne h92
        have g2 : (z == 34) = false := by rw [hzz]; exact u8_ne h34
        clear h hzz h34 h92
        go_wp2_with (go_at_call 11; ((with_reducible refine (PK.out _ RN.out).mono ?_); rintro e w1 ⟨rfl, d, rfl⟩))
        go_step3
        go_wp2
        refine ⟨⟨k + 1, _, _, _, _, _, _, _, _, _, _, _, _, _, _, _, _, _, _, _, _, _, _, _, _, _, _, _, _, _, _, _, _, _, _, _, _, _, _, _, _, _, _, _, _, _, _, _, _, _, _, _, _, _, _, _, _, _, _, _, _, _, _, _, _, _, _, _, _, _, _, rfl, by omega, by omega, Lib.hid (RN.out.drew d), Lib.hid (.inl ⟨rfl, H2.out⟩)⟩, ?_⟩
        have := lxAt_is (RN.out.drew d)
        simp only [HM.out]; omega
      · rw [at0_out hlt] at hzz
        subst hzz
        have HNo := Lib.hid (quo_none (l := s.data.toList) hlt E h)
        clear h
        go_wp2_with (go_at_call 11; ((with_reducible refine (PK.out _ RN.out).mono ?_); rintro e w1 ⟨rfl, d, rfl⟩))
        clear PK HPK HTK HDT HU HA HN
        rw [toLabel_ret]
        go_ret
        exact ⟨by rw [HNo.out]; rfl, (RN.out.drew d).buf.2.1, fun k hk => by rw [HNo.out] at hk; cases hk⟩
    · refine ⟨_, rfl, ?_⟩
      clear hst
      have H2 := Lib.hid (quo_esc (l := s.data.toList) E h)
      clear h
      go_wp2
      go_step3
      go_wp2
      refine ⟨⟨k + 1, _, _, _, _, _, _, _, _, _, _, _, _, _, _, _, _, _, _, _, _, _, _, _, _, _, _, _, _, _, _, _, _, _, _, _, _, _, _, _, _, _, _, _, _, _, _, _, _, _, _, _, _, _, _, _, _, _, _, _, _, _, _, _, _, _, _, _, _, _, _, rfl, by omega, by omega, Lib.hid RN.out, Lib.hid (.inl ⟨rfl, H2.out⟩)⟩, ?_⟩
      have := lxAt_is RN.out
      simp only [HM.out]; omega
    · refine ⟨_, rfl, ?_⟩
      clear hst HPK
      have k1 := lx_slice s (a : Int) ((k : Int) + 1) a (k + 1) rfl (by omega) (by omega) (by omega)
      have hu := HU.out (k + 1) h
      rw [← cutT_is] at hu
      obtain ⟨X, hX⟩ : ∃ X, X = s.extract a (k + 1) := ⟨_, rfl⟩
      rw [← hX] at k1 hu
      have HV := Lib.hid hu
      have HEk := Lib.hid h
      clear hu hX h HU
      have d0 := RN.out.c0
      have d1 : (wr.setCell ⟨p, 1, none⟩ (.int .i64 ((k : Int) + 1))).cell? ⟨p, 1, none⟩ = some (.int .i64 ((k : Int) + 1)) := RN.out.c1
      have hlp := RN.out.lt
      have HC := Lib.hid (fun w' (hb : Below (wr.setCell ⟨p, 1, none⟩ (.int .i64 ((k : Int) + 1))).heap.size (wr.setCell ⟨p, 1, none⟩ (.int .i64 ((k : Int) + 1))) w') => show w'.cell? ⟨p, 0, none⟩ = some (.string s) ∧ w'.cell? ⟨p, 1, none⟩ = some (.int .i64 ((k : Int) + 1)) from
        ⟨((bcell hb).1 p 0 hlp).trans d0, ((bcell hb).1 p 1 hlp).trans d1⟩)
      clear d0 d1 hlp
      go_upto_region 10 with fail
      go_cut [4, 5] (fun s4 s5 wx => s4 = .string T ∧ s5 = .int .i64 eu ∧ Hid (Rdr W0 wx p s (k + 1) b lv ts ov fr))
      case first =>
        go_region_held3 (fun w' => w'.cell? ⟨p, 0, none⟩ = some (.string s) ∧ w'.cell? ⟨p, 1, none⟩ = some (.int .i64 ((k : Int) + 1))) (exact HC.out _ (by (repeat' (first | (with_reducible exact Below.refl _ _) | (with_reducible assumption) | (with_reducible refine Below.alloc ?_ ?_ _) | (with_reducible refine below_drewN ?_ _) | (with_reducible refine below_drew ?_) | (with_reducible refine below_ext ?_ ?_ _ _) | (with_reducible refine Below.setCell ?_ ?_ _) | (simp; done) | (simp; omega) | omega)))) ((go_at_call 25; ((with_reducible refine (HV.out _ (RN.out.later (by (repeat' (first | (with_reducible exact Below.refl _ _) | (with_reducible assumption) | (with_reducible refine Below.alloc ?_ ?_ _) | (with_reducible refine below_drewN ?_ _) | (with_reducible refine below_drew ?_) | (with_reducible refine below_ext ?_ ?_ _ _) | (with_reducible refine Below.setCell ?_ ?_ _) | (simp; done) | (simp; omega) | omega)))).bel).mono ?_); rintro e w1 ⟨rfl, hb1⟩; obtain ⟨osA, dA, rfl⟩ := ext_of_below hb1; clear hb1)))
        all_goals
          go_wp2_with fail
          go_meet
          case rel => exact ⟨rfl, rfl, Lib.hid (RN.out.later (by (repeat' (first | (with_reducible exact Below.refl _ _) | (with_reducible assumption) | (with_reducible refine Below.alloc ?_ ?_ _) | (with_reducible refine below_drewN ?_ _) | (with_reducible refine below_drew ?_) | (with_reducible refine below_ext ?_ ?_ _ _) | (with_reducible refine Below.setCell ?_ ?_ _) | (simp; done) | (simp; omega) | omega))))⟩
      case rest =>
        obtain ⟨rfl, rfl, R1⟩ := hcut
        clear HC HV RN f1 c0 c1
        have c0 := R1.out.c0
        have c2 := R1.out.c2
        have hbi : (b : Int) < s.size := by omega
        by_cases heu : eu = 0
        · subst heu
          cases isAt with
          | true =>
            have hA := HA.out
            go_wp2
            go_quiet (fail)
            go_wp2_with (go_at_call 26; ((with_reducible refine (HDT.out _ _ (R1.out.drew _)).mono ?_); rintro e w2 ⟨rfl, lv2, R2⟩; have R3 := Lib.hid R2; clear R2))
            rw [toLabel_ret]
            go_ret
            exact ⟨by rw [HEk.out]; simp, R3.out.buf.2.1, fun k' hk _ _ => ⟨_, by rw [HEk.out] at hk; cases hk; simpa using R3.out⟩⟩
          | false =>
            have hA := HA.out
            go_wp2
            go_quiet (fail)
            go_wp2_with (go_at_call 21; ((with_reducible refine (HTK.out _ _ (R1.out.drew _)).mono ?_); rintro e w2 ⟨rfl, lv2, R2⟩; have R3 := Lib.hid R2; clear R2))
            rw [toLabel_ret]
            go_ret
            exact ⟨by rw [HEk.out]; simp, R3.out.buf.2.1, fun k' hk _ _ => ⟨_, by rw [HEk.out] at hk; cases hk; simpa using R3.out⟩⟩
        · have g1 : (eu == 0) = false := by simpa using heu
          have g2 : (eu != 0) = true := by simpa using heu
          go_wp2
          rw [toLabel_ret]
          go_ret
          exact ⟨by rw [HEk.out]; simp [heu], R1.out.buf.2.1, fun k' hk h0 => absurd h0 heu⟩
  · intro hp
    have c1 := HR.out.c1
    have ha1 := ha
    clear HPK HTK HDT HU HA HN
    go_wp2
    go_step3
    simp only [Exit.then]
    rename_i ha
    refine ha _ _ ?_
    refine hp 0 _ _ ?_ _ rfl
    exact ⟨a, _, _, _, _, _, _, _, _, _, _, _, _, _, _, _, _, _, _, _, _, _, _, _, _, _, _, _, _, _, _, _, _, _, _, _, _, _, _, _, _, _, _, _, _, _, _, _, _, _, _, _, _, _, _, _, _, _, _, _, _, _, _, _, _, _, _, _, _, _, _, rfl, Nat.le_refl _, ha1, HR, Lib.hid (.inl ⟨rfl, HE.out⟩)⟩
end Go.Proofs.YtonajmngchfjeaaDoor
