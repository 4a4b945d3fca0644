/-
  The law CharsEscapes, for texts that are no longer than a bound.
-/
import Derived.Test.YtgmfggflbcegjaaDoorUneM
import Derived.Test.YtgmfggflbcegjaaDoorDocG
import Derived.Test.YtgmfggflbcegjaaDoorEscC
import Derived.Test.YtgmfggflbcegjaaDoorUpto
namespace Go.Proofs.YtgmfggflbcegjaaDoor
open Go.RowKit Txt
attribute [local go_sem] setCell_drewN cell?_ext frozen?_ext shape?_ext setCell_ext lt_1' ne_1' en_1' le_1' lt_2' ne_2' en_2' le_2' lt_3' ne_3' en_3' le_3' lt_4' ne_4' en_4' le_4' lt_5' ne_5' en_5' le_5' lt_6' ne_6' en_6' le_6' lt_7' ne_7' en_7' le_7' lt_8' ne_8' en_8' le_8' lt_9' ne_9' en_9' le_9' lt_10' ne_10' en_10' le_10' lt_11' ne_11' en_11' le_11' lt_12' ne_12' en_12' le_12'

/-- what a document's text is read as -/
def uneX (s : ByteArray) (attr : Bool) : Option (List UInt8) := une attr (s.size + 1) s.data.toList []
theorem unescape_any (s : ByteArray) (attr : Bool) (hs : s.size ≤ 17592186044416) (w : World) (hT : Tabs w) :
    Calls Tryd.prog 12 #[.string s, .bool attr] w fun e w' => e = .returned (if isText s = true then ansX (uneX s attr) else .tuple #[.string { data := #[] }, .int .i64 2]) ∧ Below w.heap.size w w' := by
  have hV := valid_any s (by unfold maxLen; omega) w hT
  obtain ⟨X, hX⟩ : ∃ X, X = uneX s attr := ⟨_, rfl⟩
  rw [← hX]
  have HQ := Lib.hid (unescape_machine s attr hs X hX)
  clear hX
  cases ht : isText s with
  | true =>
    rw [ht] at hV
    rw [if_pos rfl]
    have HV := Lib.hid hV
    clear hV ht hT
    cases X with
    | none =>
      have HQ2 := Lib.hid (show ∀ w, Calls Tryd.prog 37 #[.string s, .bool attr] w fun e w' => e = .returned (.tuple #[.string { data := #[] }, .int .i64 5]) ∧ Below w.heap.size w w' from HQ.out)
      show Calls Tryd.prog 12 #[.string s, .bool attr] w fun e w' => e = .returned (.tuple #[.string { data := #[] }, .int .i64 5]) ∧ Below w.heap.size w w'
      go_enter Tryd.func12, Tryd.ntmps12
      go_wp2_with (first | (go_at_call 33; ((with_reducible refine (HV.out).mono ?_); rintro e w1 ⟨rfl, hb1⟩; obtain ⟨osA, dA, rfl⟩ := ext_of_below hb1; clear hb1)) | (go_at_call 37; ((with_reducible refine (HQ2.out _).mono ?_); rintro e w1 ⟨rfl, hb1⟩; obtain ⟨osB, dB, rfl⟩ := ext_of_below hb1; clear hb1)))
      go_ret2
      exact ⟨rfl, by (repeat' (first | (with_reducible exact Below.refl _ _) | (with_reducible assumption) | (with_reducible refine Below.alloc ?_ ?_ _) | (with_reducible refine below_drewN ?_ _) | (with_reducible refine below_drew ?_) | (with_reducible refine below_ext ?_ ?_ _ _) | (with_reducible refine Below.setCell ?_ ?_ _) | (simp; done) | (simp; omega) | omega))⟩
    | some l =>
      obtain ⟨y, hy⟩ : ∃ y, y = mkb l := ⟨_, rfl⟩
      have HQ2 := Lib.hid (show ∀ w, Calls Tryd.prog 37 #[.string s, .bool attr] w fun e w' => e = .returned (.tuple #[.string y, .int .i64 0]) ∧ Below w.heap.size w w' from by rw [hy]; exact HQ.out)
      show Calls Tryd.prog 12 #[.string s, .bool attr] w fun e w' => e = .returned (.tuple #[.string (mkb l), .int .i64 0]) ∧ Below w.heap.size w w'
      rw [← hy]
      clear hy
      go_enter Tryd.func12, Tryd.ntmps12
      go_wp2_with (first | (go_at_call 33; ((with_reducible refine (HV.out).mono ?_); rintro e w1 ⟨rfl, hb1⟩; obtain ⟨osA, dA, rfl⟩ := ext_of_below hb1; clear hb1)) | (go_at_call 37; ((with_reducible refine (HQ2.out _).mono ?_); rintro e w1 ⟨rfl, hb1⟩; obtain ⟨osB, dB, rfl⟩ := ext_of_below hb1; clear hb1)))
      go_ret2
      exact ⟨rfl, by (repeat' (first | (with_reducible exact Below.refl _ _) | (with_reducible assumption) | (with_reducible refine Below.alloc ?_ ?_ _) | (with_reducible refine below_drewN ?_ _) | (with_reducible refine below_drew ?_) | (with_reducible refine below_ext ?_ ?_ _ _) | (with_reducible refine Below.setCell ?_ ?_ _) | (simp; done) | (simp; omega) | omega))⟩
  | false =>
    rw [ht] at hV
    rw [if_neg (by decide)]
    have HV := Lib.hid hV
    clear hV ht hT
    go_enter Tryd.func12, Tryd.ntmps12
    go_wp2_with (first | (go_at_call 33; ((with_reducible refine (HV.out).mono ?_); rintro e w1 ⟨rfl, hb1⟩; obtain ⟨osA, dA, rfl⟩ := ext_of_below hb1; clear hb1)))
    go_ret2
    exact ⟨rfl, by (repeat' (first | (with_reducible exact Below.refl _ _) | (with_reducible assumption) | (with_reducible refine Below.alloc ?_ ?_ _) | (with_reducible refine below_drewN ?_ _) | (with_reducible refine below_drew ?_) | (with_reducible refine below_ext ?_ ?_ _ _) | (with_reducible refine Below.setCell ?_ ?_ _) | (simp; done) | (simp; omega) | omega))⟩
theorem docune_bad (s : ByteArray) (attr : Bool) (hs : s.size ≤ 1048576) (ht : isText s = false) (w : World) :
    Calls Tryd.prog 13 #[.string s, .bool attr] w fun e w' => e = .returned (.tuple #[.string { data := #[] }, .int .i64 2]) ∧ Below w.heap.size w w' := by
  have hV := rvalid_any s hs w
  rw [ht] at hV
  have HV := Lib.hid hV
  clear hV ht
  go_enter Tryd.func13, Tryd.ntmps13
  go_wp2_with (go_at_call 21; ((with_reducible refine (HV.out).mono ?_); rintro e w1 ⟨rfl, hb1⟩; obtain ⟨osA, dA, rfl⟩ := ext_of_below hb1; clear hb1))
  go_ret2
  exact ⟨rfl, by (repeat' (first | (with_reducible exact Below.refl _ _) | (with_reducible assumption) | (with_reducible refine Below.alloc ?_ ?_ _) | (with_reducible refine below_drewN ?_ _) | (with_reducible refine below_drew ?_) | (with_reducible refine below_ext ?_ ?_ _ _) | (with_reducible refine Below.setCell ?_ ?_ _) | (simp; done) | (simp; omega) | omega))⟩
theorem docune_any (s : ByteArray) (attr : Bool) (hs : s.size ≤ 1048576) (w : World) :
    Calls Tryd.prog 13 #[.string s, .bool attr] w fun e w' => e = .returned (if isText s = true then ansX (uneX s attr) else .tuple #[.string { data := #[] }, .int .i64 2]) ∧ Below w.heap.size w w' := by
  cases ht : isText s with
  | true => rw [if_pos rfl]; exact docune_text s attr hs ht _ rfl w
  | false => rw [if_neg (by decide)]; exact docune_bad s attr hs ht w
theorem ansE_form (s : ByteArray) (attr : Bool) : ∃ (a : ByteArray) (g : Int), (if isText s = true then ansX (uneX s attr) else .tuple #[.string { data := #[] }, .int .i64 2]) = .tuple #[.string a, .int .i64 g] := by
  split
  · cases uneX s attr with
    | none => exact ⟨_, _, rfl⟩
    | some l => exact ⟨_, _, rfl⟩
  · exact ⟨_, _, rfl⟩
theorem esc_text (s : ByteArray) (attr : Bool) (h : isText s = true) : isText (mkb (escAll attr s.data.toList)) = true := by
  rw [isText_TX] at h ⊢
  exact escaped_TX attr h
theorem esc_size (s : ByteArray) (attr : Bool) : (mkb (escAll attr s.data.toList)).size ≤ 6 * s.size := by
  have h := escAll_len attr s.data.toList
  rw [← Lib.size_eq] at h
  rw [Lib.size_eq]
  exact h
theorem esc_back (s : ByteArray) (attr : Bool) : ansX (uneX (mkb (escAll attr s.data.toList)) attr) = .tuple #[.string s, .int .i64 0] := by
  have e : uneX (mkb (escAll attr s.data.toList)) attr = some s.data.toList := by
    unfold uneX
    rw [une_back attr s.data.toList _ [] (by rw [Lib.size_eq]; exact Nat.lt_succ_self _)]
    rfl
  rw [e]
  rfl
set_option maxRecDepth 100000 in
set_option maxHeartbeats 8000000 in
theorem cescapes_law (s t : ByteArray) (attr : Bool) (hs : s.size ≤ 1048576) (ht : t.size ≤ 1048576) (w : World) (hT : Tabs w) :
    Calls Tryd.prog 3 #[.string s, .string t, .bool attr] w fun e w' => e = .returned (.bool true) ∧ Below w.heap.size w w' := by
  have HT := Lib.hid (fun w' (hb : Below w.heap.size w w') => hT.below hb)
  have HK := Lib.hid (known_any w hT)
  obtain ⟨a, g, hag⟩ := ansE_form t attr
  have h1 := docune_any t attr ht
  have h2 := fun w' (h : Tabs w') => unescape_any t attr (by omega) w' h
  rw [hag] at h1 h2
  have H1 := Lib.hid h1; have H2 := Lib.hid h2
  clear h1 h2 hag
  cases hi : isText s with
  | true =>
    have h3 := fun w' => docescape_text s attr hs hi w'
    have hz := esc_size s attr
    have h4 := fun w' (h : Tabs w') => escape_text s attr (by omega) hi w' h
    have h5 := fun w' (h : Tabs w') => unescape_any (mkb (escAll attr s.data.toList)) attr (by omega) w' h
    rw [if_pos (esc_text s attr hi), esc_back s attr] at h5
    obtain ⟨y, hy⟩ : ∃ y, y = mkb (escAll attr s.data.toList) := ⟨_, rfl⟩
    rw [← hy] at h3 h4 h5
    have H3 := Lib.hid h3; have H4 := Lib.hid h4; have H5 := Lib.hid h5
    clear h3 h4 h5 hz hy hi hT hs ht
    go_enter Tryd.func3, Tryd.ntmps3
    go_wp2_with (first
      | (go_at_call 9; ((with_reducible refine (HK.out).mono ?_); rintro e w1 ⟨rfl, hb1⟩; obtain ⟨osA, dA, rfl⟩ := ext_of_below hb1; clear hb1))
      | (go_at_call 10; ((with_reducible refine (H3.out _).mono ?_); rintro e w1 ⟨rfl, hb1⟩; obtain ⟨osB, dB, rfl⟩ := ext_of_below hb1; clear hb1))
      | (go_at_call 11; ((with_reducible refine (H4.out _ (HT.out _ (by (repeat' (first | (with_reducible exact Below.refl _ _) | (with_reducible assumption) | (with_reducible refine Below.alloc ?_ ?_ _) | (with_reducible refine below_drewN ?_ _) | (with_reducible refine below_drew ?_) | (with_reducible refine below_ext ?_ ?_ _ _) | (with_reducible refine Below.setCell ?_ ?_ _) | (simp; done) | (simp; omega) | omega))))).mono ?_); rintro e w1 ⟨rfl, hb1⟩; obtain ⟨osC, dC, rfl⟩ := ext_of_below hb1; clear hb1))
      | (go_at_call 13; ((with_reducible refine (H1.out _).mono ?_); rintro e w1 ⟨rfl, hb1⟩; obtain ⟨osD, dD, rfl⟩ := ext_of_below hb1; clear hb1))
      | (go_at_call 12; ((with_reducible refine (H5.out _ (HT.out _ (by (repeat' (first | (with_reducible exact Below.refl _ _) | (with_reducible assumption) | (with_reducible refine Below.alloc ?_ ?_ _) | (with_reducible refine below_drewN ?_ _) | (with_reducible refine below_drew ?_) | (with_reducible refine below_ext ?_ ?_ _ _) | (with_reducible refine Below.setCell ?_ ?_ _) | (simp; done) | (simp; omega) | omega))))).mono ?_); rintro e w1 ⟨rfl, hb1⟩; obtain ⟨osE, dE, rfl⟩ := ext_of_below hb1; clear hb1))
      | (go_at_call 12; ((with_reducible refine (H2.out _ (HT.out _ (by (repeat' (first | (with_reducible exact Below.refl _ _) | (with_reducible assumption) | (with_reducible refine Below.alloc ?_ ?_ _) | (with_reducible refine below_drewN ?_ _) | (with_reducible refine below_drew ?_) | (with_reducible refine below_ext ?_ ?_ _ _) | (with_reducible refine Below.setCell ?_ ?_ _) | (simp; done) | (simp; omega) | omega))))).mono ?_); rintro e w1 ⟨rfl, hb1⟩; obtain ⟨osF, dF, rfl⟩ := ext_of_below hb1; clear hb1)))
    go_ret
    exact ⟨rfl, by (repeat' (first | (with_reducible exact Below.refl _ _) | (with_reducible assumption) | (with_reducible refine Below.alloc ?_ ?_ _) | (with_reducible refine below_drewN ?_ _) | (with_reducible refine below_drew ?_) | (with_reducible refine below_ext ?_ ?_ _ _) | (with_reducible refine Below.setCell ?_ ?_ _) | (simp; done) | (simp; omega) | omega))⟩
  | false =>
    have h3 := fun w' => docescape_bad s attr hs hi w'
    have h4 := fun w' (h : Tabs w') => escape_bad s attr (by omega) hi w' h
    have H3 := Lib.hid h3; have H4 := Lib.hid h4
    clear h3 h4 hi hT hs ht
    go_enter Tryd.func3, Tryd.ntmps3
    go_wp2_with (first
      | (go_at_call 9; ((with_reducible refine (HK.out).mono ?_); rintro e w1 ⟨rfl, hb1⟩; obtain ⟨osA, dA, rfl⟩ := ext_of_below hb1; clear hb1))
      | (go_at_call 10; ((with_reducible refine (H3.out _).mono ?_); rintro e w1 ⟨rfl, hb1⟩; obtain ⟨osB, dB, rfl⟩ := ext_of_below hb1; clear hb1))
      | (go_at_call 11; ((with_reducible refine (H4.out _ (HT.out _ (by (repeat' (first | (with_reducible exact Below.refl _ _) | (with_reducible assumption) | (with_reducible refine Below.alloc ?_ ?_ _) | (with_reducible refine below_drewN ?_ _) | (with_reducible refine below_drew ?_) | (with_reducible refine below_ext ?_ ?_ _ _) | (with_reducible refine Below.setCell ?_ ?_ _) | (simp; done) | (simp; omega) | omega))))).mono ?_); rintro e w1 ⟨rfl, hb1⟩; obtain ⟨osC, dC, rfl⟩ := ext_of_below hb1; clear hb1))
      | (go_at_call 13; ((with_reducible refine (H1.out _).mono ?_); rintro e w1 ⟨rfl, hb1⟩; obtain ⟨osD, dD, rfl⟩ := ext_of_below hb1; clear hb1))
      | (go_at_call 12; ((with_reducible refine (H2.out _ (HT.out _ (by (repeat' (first | (with_reducible exact Below.refl _ _) | (with_reducible assumption) | (with_reducible refine Below.alloc ?_ ?_ _) | (with_reducible refine below_drewN ?_ _) | (with_reducible refine below_drew ?_) | (with_reducible refine below_ext ?_ ?_ _ _) | (with_reducible refine Below.setCell ?_ ?_ _) | (simp; done) | (simp; omega) | omega))))).mono ?_); rintro e w1 ⟨rfl, hb1⟩; obtain ⟨osF, dF, rfl⟩ := ext_of_below hb1; clear hb1)))
    go_ret
    exact ⟨rfl, by (repeat' (first | (with_reducible exact Below.refl _ _) | (with_reducible assumption) | (with_reducible refine Below.alloc ?_ ?_ _) | (with_reducible refine below_drewN ?_ _) | (with_reducible refine below_drew ?_) | (with_reducible refine below_ext ?_ ?_ _ _) | (with_reducible refine Below.setCell ?_ ?_ _) | (simp; done) | (simp; omega) | omega))⟩
end Go.Proofs.YtgmfggflbcegjaaDoor
