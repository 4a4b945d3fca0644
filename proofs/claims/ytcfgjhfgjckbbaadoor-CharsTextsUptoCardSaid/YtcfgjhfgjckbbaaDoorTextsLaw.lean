/-
  The law CharsTexts, for texts that are no longer than a bound.
-/
import Derived.Test.YtcfgjhfgjckbbaaDoorMove
import Derived.Test.YtcfgjhfgjckbbaaDoorUpto
namespace Go.Proofs.YtcfgjhfgjckbbaaDoor
open Go.RowKit Txt
attribute [local go_sem] setCell_drewN cell?_ext frozen?_ext shape?_ext setCell_ext lt_1' ne_1' en_1' le_1' lt_2' ne_2' en_2' le_2' lt_3' ne_3' en_3' le_3' lt_4' ne_4' en_4' le_4' lt_5' ne_5' en_5' le_5' lt_6' ne_6' en_6' le_6' lt_7' ne_7' en_7' le_7' lt_8' ne_8' en_8' le_8' lt_9' ne_9' en_9' le_9' lt_10' ne_10' en_10' le_10' lt_11' ne_11' en_11' le_11' lt_12' ne_12' en_12' le_12'

theorem shift_bad (s : ByteArray) (o n : Int) (hs : s.size ≤ 1048576) (ht : isText s = false) (w : World) (hT : Tabs w) :
    Calls Tryd.prog 74 #[.string s, .int .u8 o, .int .u8 n] w fun e w' => e = .returned (.tuple #[.string { data := #[] }, .int .i64 2]) ∧ Below w.heap.size w w' := by
  have hV := valid_any s (by unfold maxLen; omega) w hT
  rw [ht] at hV
  have HV := Lib.hid hV
  clear hV ht hT
  go_enter Tryd.func74, Tryd.ntmps74
  go_wp2_with (go_at_call 33; ((with_reducible refine (HV.out).mono ?_); rintro e w1 ⟨rfl, hb1⟩; obtain ⟨osA, dA, rfl⟩ := ext_of_below hb1; clear hb1))
  go_ret2
  exact ⟨rfl, by (repeat' (first | (with_reducible exact Below.refl _ _) | (with_reducible assumption) | (with_reducible refine Below.alloc ?_ ?_ _) | (with_reducible refine below_drewN ?_ _) | (with_reducible refine below_drew ?_) | (with_reducible refine below_ext ?_ ?_ _ _) | (with_reducible refine Below.setCell ?_ ?_ _) | (simp; done) | (simp; omega) | omega))⟩
theorem moved_bad (s : ByteArray) (o h d : Int) (hs : s.size ≤ 1048576) (ht : isText s = false) (w : World) :
    Calls Tryd.prog 73 #[.string s, .int .u8 o, .int .u8 h, .int .i64 d] w fun e w' => e = .returned (.tuple #[.string { data := #[] }, .int .i64 2]) ∧ Below w.heap.size w w' := by
  have hV := rvalid_any s hs w
  rw [ht] at hV
  have HV := Lib.hid hV
  clear hV ht
  go_enter Tryd.func73, Tryd.ntmps73
  go_wp2_with (go_at_call 34; ((with_reducible refine (HV.out).mono ?_); rintro e w1 ⟨rfl, hb1⟩; obtain ⟨osA, dA, rfl⟩ := ext_of_below hb1; clear hb1))
  go_ret2
  exact ⟨rfl, by (repeat' (first | (with_reducible exact Below.refl _ _) | (with_reducible assumption) | (with_reducible refine Below.alloc ?_ ?_ _) | (with_reducible refine below_drewN ?_ _) | (with_reducible refine below_drew ?_) | (with_reducible refine below_ext ?_ ?_ _ _) | (with_reducible refine Below.setCell ?_ ?_ _) | (simp; done) | (simp; omega) | omega))⟩
/-- what the four functions of letters answer -/
def Said (f : FuncId) (s x : ByteArray) (e : Int) (X : World → Prop) : Prop := ∀ w, X w → Calls Tryd.prog f #[.string s] w fun r w' => r = .returned (.tuple #[.string x, .int .i64 e]) ∧ Below w.heap.size w w'
theorem letters (s : ByteArray) (hs : s.size ≤ 1048576) : ∃ (u l : ByteArray) (e : Int), Said 40 s u e Tabs ∧ Said 39 s u e (fun _ => True) ∧ Said 42 s l e Tabs ∧ Said 41 s l e (fun _ => True) := by
  obtain ⟨u, l, e, h1, h2, h3, h4⟩ : ∃ (u l : ByteArray) (e : Int), (∀ w, Tabs w → Calls Tryd.prog 74 #[.string s, .int .u8 97, .int .u8 65] w fun r w' => r = .returned (.tuple #[.string u, .int .i64 e]) ∧ Below w.heap.size w w') ∧
      (∀ w, Calls Tryd.prog 73 #[.string s, .int .u8 97, .int .u8 122, .int .i64 (-32)] w fun r w' => r = .returned (.tuple #[.string u, .int .i64 e]) ∧ Below w.heap.size w w') ∧
      (∀ w, Tabs w → Calls Tryd.prog 74 #[.string s, .int .u8 65, .int .u8 97] w fun r w' => r = .returned (.tuple #[.string l, .int .i64 e]) ∧ Below w.heap.size w w') ∧
      (∀ w, Calls Tryd.prog 73 #[.string s, .int .u8 65, .int .u8 90, .int .i64 32] w fun r w' => r = .returned (.tuple #[.string l, .int .i64 e]) ∧ Below w.heap.size w w') := by
    cases ht : isText s with
    | true => exact ⟨_, _, 0, fun w hT => shift_text s 97 65 (.inl ⟨rfl, rfl⟩) hs ht w hT, fun w => moved_text s 97 122 65 (-32) (.inl ⟨rfl, rfl, rfl, rfl⟩) hs ht w, fun w hT => shift_text s 65 97 (.inr ⟨rfl, rfl⟩) hs ht w hT, fun w => moved_text s 65 90 97 32 (.inr ⟨rfl, rfl, rfl, rfl⟩) hs ht w⟩
    | false => exact ⟨_, _, 2, fun w hT => shift_bad s 97 65 hs ht w hT, fun w => moved_bad s 97 122 (-32) hs ht w, fun w hT => shift_bad s 65 97 hs ht w hT, fun w => moved_bad s 65 90 32 hs ht w⟩
  have H1 := Lib.hid h1; have H2 := Lib.hid h2; have H3 := Lib.hid h3; have H4 := Lib.hid h4
  clear h1 h2 h3 h4
  refine ⟨u, l, e, fun w hT => ?_, fun w _ => ?_, fun w hT => ?_, fun w _ => ?_⟩
  · have HT := Lib.hid hT
    clear hT
    go_enter Tryd.func40, Tryd.ntmps40
    go_wp2_with (go_at_call 74; ((with_reducible refine (H1.out _ HT.out).mono ?_); rintro e w1 ⟨rfl, hb1⟩; obtain ⟨osA, dA, rfl⟩ := ext_of_below hb1; clear hb1))
    go_ret2
    exact ⟨rfl, by (repeat' (first | (with_reducible exact Below.refl _ _) | (with_reducible assumption) | (with_reducible refine Below.alloc ?_ ?_ _) | (with_reducible refine below_drewN ?_ _) | (with_reducible refine below_drew ?_) | (with_reducible refine below_ext ?_ ?_ _ _) | (with_reducible refine Below.setCell ?_ ?_ _) | (simp; done) | (simp; omega) | omega))⟩
  · go_enter Tryd.func39, Tryd.ntmps39
    go_wp2_with (go_at_call 73; ((with_reducible refine (H2.out _).mono ?_); rintro e w1 ⟨rfl, hb1⟩; obtain ⟨osA, dA, rfl⟩ := ext_of_below hb1; clear hb1))
    go_ret2
    exact ⟨rfl, by (repeat' (first | (with_reducible exact Below.refl _ _) | (with_reducible assumption) | (with_reducible refine Below.alloc ?_ ?_ _) | (with_reducible refine below_drewN ?_ _) | (with_reducible refine below_drew ?_) | (with_reducible refine below_ext ?_ ?_ _ _) | (with_reducible refine Below.setCell ?_ ?_ _) | (simp; done) | (simp; omega) | omega))⟩
  · have HT := Lib.hid hT
    clear hT
    go_enter Tryd.func42, Tryd.ntmps42
    go_wp2_with (go_at_call 74; ((with_reducible refine (H3.out _ HT.out).mono ?_); rintro e w1 ⟨rfl, hb1⟩; obtain ⟨osA, dA, rfl⟩ := ext_of_below hb1; clear hb1))
    go_ret2
    exact ⟨rfl, by (repeat' (first | (with_reducible exact Below.refl _ _) | (with_reducible assumption) | (with_reducible refine Below.alloc ?_ ?_ _) | (with_reducible refine below_drewN ?_ _) | (with_reducible refine below_drew ?_) | (with_reducible refine below_ext ?_ ?_ _ _) | (with_reducible refine Below.setCell ?_ ?_ _) | (simp; done) | (simp; omega) | omega))⟩
  · go_enter Tryd.func41, Tryd.ntmps41
    go_wp2_with (go_at_call 73; ((with_reducible refine (H4.out _).mono ?_); rintro e w1 ⟨rfl, hb1⟩; obtain ⟨osA, dA, rfl⟩ := ext_of_below hb1; clear hb1))
    go_ret2
    exact ⟨rfl, by (repeat' (first | (with_reducible exact Below.refl _ _) | (with_reducible assumption) | (with_reducible refine Below.alloc ?_ ?_ _) | (with_reducible refine below_drewN ?_ _) | (with_reducible refine below_drew ?_) | (with_reducible refine below_ext ?_ ?_ _ _) | (with_reducible refine Below.setCell ?_ ?_ _) | (simp; done) | (simp; omega) | omega))⟩
theorem counts (s : ByteArray) (hs : s.size ≤ 1048576) : ∃ a e : Int, (∀ w, Tabs w → Calls Tryd.prog 36 #[.string s] w fun r w' => r = .returned (.tuple #[.int .i64 a, .int .i64 e]) ∧ Below w.heap.size w w') ∧
    ∀ w, Calls Tryd.prog 35 #[.string s] w fun r w' => r = .returned (.tuple #[.int .i64 a, .int .i64 e]) ∧ Below w.heap.size w w' := by
  cases ht : isText s with
  | true => exact ⟨_, 0, fun w hT => count_text s (by omega) ht w hT, fun w => rcount_text s hs ht w⟩
  | false => exact ⟨0, 2, fun w hT => count_bad s (by omega) ht w hT, fun w => rcount_bad s hs ht w⟩
theorem parts (s : ByteArray) (f n : Int) (hf1 : -9223372036854775808 ≤ f) (hf2 : f ≤ 9223372036854775807) (hn2 : n ≤ 9223372036854775807) (hs : s.size ≤ 1048576) : ∃ (x : ByteArray) (e : Int), (∀ w, Tabs w → Calls Tryd.prog 38 #[.string s, .int .i64 f, .int .i64 n] w fun r w' => r = .returned (.tuple #[.string x, .int .i64 e]) ∧ Below w.heap.size w w') ∧
    ∀ w, Calls Tryd.prog 37 #[.string s, .int .i64 f, .int .i64 n] w fun r w' => r = .returned (.tuple #[.string x, .int .i64 e]) ∧ Below w.heap.size w w' := by
  by_cases h : f = 0 ∨ n < 0
  · have h' : f = 0 ∨ ((f == 0) = false ∧ n < 0) := by
      by_cases hz : f = 0
      · exact .inl hz
      · exact .inr ⟨by simpa using hz, by omega⟩
    exact ⟨_, 1, fun w _ => (part_arg s f n h' w).mono fun e w' ⟨a, b⟩ => ⟨a, b ▸ Below.refl _ _⟩, fun w => (rpart_arg s f n h' w).mono fun e w' ⟨a, b⟩ => ⟨a, b ▸ Below.refl _ _⟩⟩
  · have hf0 : (f == 0) = false := by simp; omega
    obtain ⟨m, rfl⟩ : ∃ m : Nat, n = m := ⟨n.toNat, by omega⟩
    cases ht : isText s with
    | false => exact ⟨_, 2, fun w hT => part_bad s f m hf0 (by omega) (by omega) ht w hT, fun w => rpart_bad s f m hf0 (by omega) hs ht w⟩
    | true =>
      have hc := count_le s
      obtain ⟨skip, hsk⟩ : ∃ skip : Nat, Skip s f skip := by
        rcases Int.lt_or_le 0 f with h1 | h1
        · exact ⟨(f - 1).toNat, .inl ⟨h1, by omega⟩⟩
        · exact ⟨(max ((Lib.runeCount s : Int) + f) 0).toNat, .inr ⟨by omega, by omega⟩⟩
      have hP := fun w hT => part_text s f skip m hf1 hf2 (by omega) hsk (by omega) ht w hT
      by_cases hlt : skip < Lib.runeCount s
      · rw [part_eq s ht skip m _ hlt rfl] at hP
        exact ⟨_, 0, hP, fun w => rpart_text s f m skip _ hf0 hf1 hf2 hsk hlt rfl hs ht w⟩
      · rw [part_end s skip m (by omega)] at hP
        exact ⟨_, 0, hP, fun w => rpart_end s f m skip hf0 hf1 hf2 hsk (by omega) hs ht w⟩
set_option maxRecDepth 100000 in
set_option maxHeartbeats 8000000 in
theorem ctexts_any (s : ByteArray) (f n : Int) (hf1 : -9223372036854775808 ≤ f) (hf2 : f ≤ 9223372036854775807) (hn2 : n ≤ 9223372036854775807) (hs : s.size ≤ 1048576) (w : World) (hT : Tabs w) :
    Calls Tryd.prog 8 #[.string s, .int .i64 f, .int .i64 n] w fun e w' => e = .returned (.bool true) ∧ Below w.heap.size w w' := by
  have HT := Lib.hid (fun w' (hb : Below w.heap.size w w') => hT.below hb)
  have HK := Lib.hid (known_any w hT)
  obtain ⟨u, l, e1, hU, hU2, hL, hL2⟩ := letters s hs
  obtain ⟨a, e2, hC, hC2⟩ := counts s hs
  obtain ⟨x, e3, hP, hP2⟩ := parts s f n hf1 hf2 hn2 hs
  have hV := fun w' (h : Tabs w') => valid_any s (by unfold maxLen; omega) w' h
  have hV2 := rvalid_any s hs
  obtain ⟨t, htt⟩ : ∃ t, t = isText s := ⟨_, rfl⟩
  rw [← htt] at hV hV2
  unfold Said at hU hU2 hL hL2
  have H1 := Lib.hid hU; have H2 := Lib.hid (fun w => hU2 w trivial); have H3 := Lib.hid hL; have H4 := Lib.hid (fun w => hL2 w trivial)
  have H5 := Lib.hid hC; have H6 := Lib.hid hC2; have H7 := Lib.hid hP; have H8 := Lib.hid hP2; have H9 := Lib.hid hV; have H10 := Lib.hid hV2
  clear hU hU2 hL hL2 hC hC2 hP hP2 hV hV2 htt hT hf1 hf2 hn2 hs
  go_enter Tryd.func8, Tryd.ntmps8
  go_wp2_with (first
    | (go_at_call 32; ((with_reducible refine (HK.out).mono ?_); rintro e w1 ⟨rfl, hb1⟩; obtain ⟨osA, dA, rfl⟩ := ext_of_below hb1; clear hb1))
    | (go_at_call 33; ((with_reducible refine (H9.out _ (HT.out _ (by (repeat' (first | (with_reducible exact Below.refl _ _) | (with_reducible assumption) | (with_reducible refine Below.alloc ?_ ?_ _) | (with_reducible refine below_drewN ?_ _) | (with_reducible refine below_drew ?_) | (with_reducible refine below_ext ?_ ?_ _ _) | (with_reducible refine Below.setCell ?_ ?_ _) | (simp; done) | (simp; omega) | omega))))).mono ?_); rintro e w1 ⟨rfl, hb1⟩; obtain ⟨osB, dB, rfl⟩ := ext_of_below hb1; clear hb1))
    | (go_at_call 34; ((with_reducible refine (H10.out _).mono ?_); rintro e w1 ⟨rfl, hb1⟩; obtain ⟨osC, dC, rfl⟩ := ext_of_below hb1; clear hb1))
    | (go_at_call 35; ((with_reducible refine (H6.out _).mono ?_); rintro e w1 ⟨rfl, hb1⟩; obtain ⟨osD, dD, rfl⟩ := ext_of_below hb1; clear hb1))
    | (go_at_call 36; ((with_reducible refine (H5.out _ (HT.out _ (by (repeat' (first | (with_reducible exact Below.refl _ _) | (with_reducible assumption) | (with_reducible refine Below.alloc ?_ ?_ _) | (with_reducible refine below_drewN ?_ _) | (with_reducible refine below_drew ?_) | (with_reducible refine below_ext ?_ ?_ _ _) | (with_reducible refine Below.setCell ?_ ?_ _) | (simp; done) | (simp; omega) | omega))))).mono ?_); rintro e w1 ⟨rfl, hb1⟩; obtain ⟨osE, dE, rfl⟩ := ext_of_below hb1; clear hb1))
    | (go_at_call 37; ((with_reducible refine (H8.out _).mono ?_); rintro e w1 ⟨rfl, hb1⟩; obtain ⟨osF, dF, rfl⟩ := ext_of_below hb1; clear hb1))
    | (go_at_call 38; ((with_reducible refine (H7.out _ (HT.out _ (by (repeat' (first | (with_reducible exact Below.refl _ _) | (with_reducible assumption) | (with_reducible refine Below.alloc ?_ ?_ _) | (with_reducible refine below_drewN ?_ _) | (with_reducible refine below_drew ?_) | (with_reducible refine below_ext ?_ ?_ _ _) | (with_reducible refine Below.setCell ?_ ?_ _) | (simp; done) | (simp; omega) | omega))))).mono ?_); rintro e w1 ⟨rfl, hb1⟩; obtain ⟨osG, dG, rfl⟩ := ext_of_below hb1; clear hb1))
    | (go_at_call 39; ((with_reducible refine (H2.out _).mono ?_); rintro e w1 ⟨rfl, hb1⟩; obtain ⟨osH, dH, rfl⟩ := ext_of_below hb1; clear hb1))
    | (go_at_call 40; ((with_reducible refine (H1.out _ (HT.out _ (by (repeat' (first | (with_reducible exact Below.refl _ _) | (with_reducible assumption) | (with_reducible refine Below.alloc ?_ ?_ _) | (with_reducible refine below_drewN ?_ _) | (with_reducible refine below_drew ?_) | (with_reducible refine below_ext ?_ ?_ _ _) | (with_reducible refine Below.setCell ?_ ?_ _) | (simp; done) | (simp; omega) | omega))))).mono ?_); rintro e w1 ⟨rfl, hb1⟩; obtain ⟨osI, dI, rfl⟩ := ext_of_below hb1; clear hb1))
    | (go_at_call 41; ((with_reducible refine (H4.out _).mono ?_); rintro e w1 ⟨rfl, hb1⟩; obtain ⟨osJ, dJ, rfl⟩ := ext_of_below hb1; clear hb1))
    | (go_at_call 42; ((with_reducible refine (H3.out _ (HT.out _ (by (repeat' (first | (with_reducible exact Below.refl _ _) | (with_reducible assumption) | (with_reducible refine Below.alloc ?_ ?_ _) | (with_reducible refine below_drewN ?_ _) | (with_reducible refine below_drew ?_) | (with_reducible refine below_ext ?_ ?_ _ _) | (with_reducible refine Below.setCell ?_ ?_ _) | (simp; done) | (simp; omega) | omega))))).mono ?_); rintro e w1 ⟨rfl, hb1⟩; obtain ⟨osL, dL, rfl⟩ := ext_of_below hb1; clear hb1)))
  go_ret
  exact ⟨rfl, by (repeat' (first | (with_reducible exact Below.refl _ _) | (with_reducible assumption) | (with_reducible refine Below.alloc ?_ ?_ _) | (with_reducible refine below_drewN ?_ _) | (with_reducible refine below_drew ?_) | (with_reducible refine below_ext ?_ ?_ _ _) | (with_reducible refine Below.setCell ?_ ?_ _) | (simp; done) | (simp; omega) | omega))⟩
theorem ctexts_law (s : ByteArray) (f n : Int) (hs : s.size ≤ 1048576) (hf : (Lit.int .i64 f).wf = true) (hn : (Lit.int .i64 n).wf = true) (w : World) (hT : Tabs w) :
    Calls Tryd.prog 8 #[.string s, .int .i64 f, .int .i64 n] w fun e w' => e = .returned (.bool true) ∧ Below w.heap.size w w' :=
  ctexts_any s f n (int_wf hf).1 (int_wf hf).2 (int_wf hn).2 hs w hT
end Go.Proofs.YtcfgjhfgjckbbaaDoor
