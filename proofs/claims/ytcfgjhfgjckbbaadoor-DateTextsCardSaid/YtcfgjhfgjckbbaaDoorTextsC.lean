/-
  The law DateTexts.
-/
import Derived.Test.YtcfgjhfgjckbbaaDoorTextsB
namespace Go.Proofs.YtcfgjhfgjckbbaaDoor
open Go.RowKit
attribute [local go_sem] setCell_drewN cell?_ext frozen?_ext shape?_ext setCell_ext lt_1' ne_1' en_1' le_1' lt_2' ne_2' en_2' le_2' lt_3' ne_3' en_3' le_3' lt_4' ne_4' en_4' le_4' lt_5' ne_5' en_5' le_5' lt_6' ne_6' en_6' le_6' lt_7' ne_7' en_7' le_7' lt_8' ne_8' en_8' le_8' lt_9' ne_9' en_9' le_9' lt_10' ne_10' en_10' le_10' lt_11' ne_11' en_11' le_11' lt_12' ne_12' en_12' le_12'

set_option maxHeartbeats 1000000 in
theorem Told_ref (n : Int) (y m d : Nat) (h : Cal.IsDay n y m d) (w : World) :
    Calls Tryd.prog 65 #[.int .i64 n] w fun e w' => e = .returned (.string (told y m d)) ∧ Below w.heap.size w w' := by
  have HD := Lib.hid h
  obtain ⟨y1, y2, m1, m2, d1, d2, hn⟩ := h
  have hdb := Cal.dim_bd y m
  obtain ⟨c, hc⟩ : ∃ c, c = y / 100 := ⟨_, rfl⟩
  obtain ⟨c', hc'⟩ : ∃ c, c = y % 100 := ⟨_, rfl⟩
  have E1 : (y : Int) / 100 = (c : Int) := by omega
  have E2 : (y : Int) % 100 = (c' : Int) := by omega
  have g0 : c < 100 := by omega
  have g1 : c' < 100 := by omega
  have g2 : m < 100 := by omega
  have g3 : d < 100 := by omega
  have hY : mk (four y) = mk (two c) ++ mk (two c') := by rw [mk_append, hc, hc']; rfl
  obtain ⟨a, ha⟩ : ∃ a, a = mk (two c) := ⟨_, rfl⟩
  obtain ⟨a', ha'⟩ : ∃ a, a = mk (two c') := ⟨_, rfl⟩
  obtain ⟨b, hb⟩ : ∃ a, a = mk (two m) := ⟨_, rfl⟩
  obtain ⟨f, hf⟩ : ∃ a, a = mk (two d) := ⟨_, rfl⟩
  have hA := two_ref c g0; have hA' := two_ref c' g1; have hB := two_ref m g2; have hF := two_ref d g3
  rw [← ha] at hA hY; rw [← ha'] at hA' hY; rw [← hb] at hB; rw [← hf] at hF
  have s1 : a.size ≤ 2 := by rw [ha]; exact Nat.le_refl 2
  have s2 : a'.size ≤ 2 := by rw [ha']; exact Nat.le_refl 2
  have s3 : b.size ≤ 2 := by rw [hb]; exact Nat.le_refl 2
  have s4 : f.size ≤ 2 := by rw [hf]; exact Nat.le_refl 2
  have HT : Hid (a ++ a' ++ { data := #[45] } ++ b ++ { data := #[45] } ++ f = told y m d) := Lib.hid (by rw [← hY, hb, hf]; rfl)
  have HA := Lib.hid hA; have HA' := Lib.hid hA'; have HB := Lib.hid hB; have HF := Lib.hid hF
  clear hA hA' hB hF ha ha' hb hf hY hc hc' hn d2 hdb
  go_enter Tryd.func65, Tryd.ntmps65
  go_wp2_with (first
    | (go_at_call 20; ((with_reducible refine (DocSplit_ok n y m d HD.out _).mono ?_); rintro e w' ⟨rfl, rfl⟩))
    | (go_at_call 87; ((with_reducible refine (HA.out _).mono ?_); rintro e w1 ⟨rfl, hb1⟩; obtain ⟨osA, dA, rfl⟩ := ext_of_below hb1; clear hb1))
    | (go_at_call 87; ((with_reducible refine (HA'.out _).mono ?_); rintro e w1 ⟨rfl, hb1⟩; obtain ⟨osB, dB, rfl⟩ := ext_of_below hb1; clear hb1))
    | (go_at_call 87; ((with_reducible refine (HB.out _).mono ?_); rintro e w1 ⟨rfl, hb1⟩; obtain ⟨osC, dC, rfl⟩ := ext_of_below hb1; clear hb1))
    | (go_at_call 87; ((with_reducible refine (HF.out _).mono ?_); rintro e w1 ⟨rfl, hb1⟩; obtain ⟨osD, dD, rfl⟩ := ext_of_below hb1; clear hb1)))
  go_ret
  exact ⟨str_eq HT.out, by (repeat' (first | (with_reducible exact Below.refl _ _) | (with_reducible assumption) | (with_reducible refine Below.alloc ?_ ?_ _) | (with_reducible refine below_drewN ?_ _) | (with_reducible refine below_drew ?_) | (with_reducible refine below_ext ?_ ?_ _ _) | (with_reducible refine Below.setCell ?_ ?_ _) | (simp; done) | (simp; omega) | omega))⟩
theorem DocPrint_ok (n : Int) (y m d : Nat) (h : Cal.IsDay n y m d) (w : World) :
    Calls Tryd.prog 30 #[.int .i64 n] w fun e w' => e = .returned (.tuple #[.string (told y m d), .int .i64 0]) ∧ Below w.heap.size w w' := by
  obtain ⟨n1, n2⟩ := h.bd
  have HD := Lib.hid h
  clear h
  go_enter Tryd.func30, Tryd.ntmps30
  go_wp2_with (first
    | (go_at_call 59; ((with_reducible refine (is_ref n n1 n2 _).mono ?_); rintro e w' ⟨rfl, rfl⟩))
    | (go_at_call 65; ((with_reducible refine (Told_ref n y m d HD.out _).mono ?_); rintro e w1 ⟨rfl, hb1⟩; obtain ⟨osA, dA, rfl⟩ := ext_of_below hb1; clear hb1)))
  go_ret2
  exact ⟨rfl, by (repeat' (first | (with_reducible exact Below.refl _ _) | (with_reducible assumption) | (with_reducible refine Below.alloc ?_ ?_ _) | (with_reducible refine below_drewN ?_ _) | (with_reducible refine below_drew ?_) | (with_reducible refine below_ext ?_ ?_ _ _) | (with_reducible refine Below.setCell ?_ ?_ _) | (simp; done) | (simp; omega) | omega))⟩
theorem DocPrint_bad (n : Int) (h : n < 1 ∨ 3652059 < n) (w : World) :
    Calls Tryd.prog 30 #[.int .i64 n] w fun e w' => e = .returned (.tuple #[.string ⟨#[]⟩, .int .i64 1]) ∧ w = w' := by
  go_enter Tryd.func30, Tryd.ntmps30
  go_wp2_with (go_at_call 59; refine (is_no n h _).mono ?_; rintro e w' ⟨rfl, rfl⟩)
  go_ret2
  exact ⟨rfl, rfl⟩
/-- the text of a day has a date's syntax, and its parts say the day -/
theorem dg_byte (k : Nat) (h : k < 10) : dgB (UInt8.ofNat (48 + k)) = true ∧ ((UInt8.ofNat (48 + k)).toNat : Int) - 48 = k := by
  have : ∀ k : Fin 10, dgB (UInt8.ofNat (48 + k.val)) = true ∧ ((UInt8.ofNat (48 + k.val)).toNat : Int) - 48 = k.val := by decide
  exact this ⟨k, h⟩
theorem num_two (n : Nat) (h : n < 100) : num (two n) = n := by
  have h1 := dg_byte (n / 10) (by omega)
  have h2 := dg_byte (n % 10) (by omega)
  simp only [num, two, List.foldl, h1.2, h2.2]
  omega
theorem num_four (n : Nat) (h : n < 10000) : num (four n) = n := by
  have h1 := dg_byte (n / 100 / 10) (by omega)
  have h2 := dg_byte (n / 100 % 10) (by omega)
  have h3 := dg_byte (n % 100 / 10) (by omega)
  have h4 := dg_byte (n % 100 % 10) (by omega)
  simp only [num, four, two, List.cons_append, List.nil_append, List.foldl, h1.2, h2.2, h3.2, h4.2]
  omega
theorem told_isD (y m d : Nat) (hy : y < 10000) (hm : m < 100) (hd : d < 100) : IsD (told y m d) := by
  refine ⟨rfl, fun i hi => ?_⟩
  have h10 : i < 10 := hi
  have h9 : i = 0 ∨ i = 1 ∨ i = 2 ∨ i = 3 ∨ i = 4 ∨ i = 5 ∨ i = 6 ∨ i = 7 ∨ i = 8 ∨ i = 9 := by omega
  rcases h9 with rfl | rfl | rfl | rfl | rfl | rfl | rfl | rfl | rfl | rfl
  · exact (dg_byte (y / 100 / 10) (by omega)).1
  · exact (dg_byte (y / 100 % 10) (by omega)).1
  · exact (dg_byte (y % 100 / 10) (by omega)).1
  · exact (dg_byte (y % 100 % 10) (by omega)).1
  · rfl
  · exact (dg_byte (m / 10) (by omega)).1
  · exact (dg_byte (m % 10) (by omega)).1
  · rfl
  · exact (dg_byte (d / 10) (by omega)).1
  · exact (dg_byte (d % 10) (by omega)).1
theorem told_parts (y m d : Nat) (hy : y < 10000) (hm : m < 100) (hd : d < 100) : py (told y m d) = y ∧ pm (told y m d) = m ∧ pd (told y m d) = d := by
  refine ⟨?_, ?_, ?_⟩
  · unfold py
    rw [show ((told y m d).extract 0 4).data.toList = four y by rfl]
    exact num_four y hy
  · unfold pm
    rw [show ((told y m d).extract 5 7).data.toList = two m by rfl]
    exact num_two m hm
  · unfold pd
    rw [show ((told y m d).extract 8 (told y m d).size).data.toList = two d by rfl]
    exact num_two d hd
/-- what Parse and DocParse answer alike -/
theorem parses_alike (s : ByteArray) : ∃ a e : Int, (∀ w, Lens w → Calls Tryd.prog 29 #[.string s] w fun x w' => x = .returned (.tuple #[.int .i64 a, .int .i64 e]) ∧ Below w.heap.size w w')
    ∧ ∀ w, Calls Tryd.prog 28 #[.string s] w fun x w' => x = .returned (.tuple #[.int .i64 a, .int .i64 e]) ∧ w = w' := by
  by_cases h : IsD s
  · rcases day_or (py s) (pm s) (pd s) with g | ⟨g, -⟩ | ⟨n, g⟩
    · exact ⟨0, 17, fun w hl => Parse_far s h (.inl g) w hl, fun w => DocParse_far s h (.inl g) w⟩
    · exact ⟨0, 17, fun w hl => Parse_far s h g w hl, fun w => DocParse_far s h g w⟩
    · exact ⟨n, 0, fun w hl => Parse_yes s h n g w hl, fun w => DocParse_yes s h n g w⟩
  · exact ⟨0, 5, fun w _ => Parse_no s h w, fun w => DocParse_no s h w⟩
set_option maxHeartbeats 4000000 in
theorem texts_any (s : ByteArray) (n : Int) (_hs : s.size ≤ maxLen) (w : World) (hl : Laid w) :
    Calls Tryd.prog 6 #[.string s, .int .i64 n] w fun e w' => e = .returned (.bool true) ∧ Below w.heap.size w w' := by
  have HL := Lib.hid (fun w' (hb : Below w.heap.size w w') => hl.below hb)
  have HK := Lib.hid (known_any w hl)
  obtain ⟨a, e, hP, hQ⟩ := parses_alike s
  have HP := Lib.hid hP; have HQ := Lib.hid hQ
  clear hl hP hQ _hs
  by_cases h : 1 ≤ n ∧ n ≤ 3652059
  · obtain ⟨y, m, d, hI⟩ := Cal.day_ex n h.1 h.2
    obtain ⟨Y, rfl⟩ : ∃ Y : Nat, y = Y := ⟨y.toNat, by have := hI.y1; omega⟩
    obtain ⟨M, rfl⟩ : ∃ M : Nat, m = M := ⟨m.toNat, by have := hI.m1; omega⟩
    obtain ⟨D, rfl⟩ : ∃ D : Nat, d = D := ⟨d.toNat, by have := hI.d1; omega⟩
    have hy : Y < 10000 := by have := hI.y2; omega
    have hm : M < 100 := by have := hI.m2; omega
    have hd : D < 100 := by have := hI.d2; have := Cal.dim_bd Y M; omega
    obtain ⟨p1, p2, p3⟩ := told_parts Y M D hy hm hd
    have hI2 := hI
    rw [← p1, ← p2, ← p3] at hI2
    have hB := Parse_yes (told Y M D) (told_isD Y M D hy hm hd) n hI2
    have hU := Print_nat n Y M D hI
    have hV := DocPrint_ok n Y M D hI
    obtain ⟨u, hu⟩ : ∃ u, u = told Y M D := ⟨_, rfl⟩
    rw [← hu] at hB hU hV
    have HB := Lib.hid hB; have HU := Lib.hid hU; have HV := Lib.hid hV
    clear hB hU hV hu hI hI2 p1 p2 p3 hy hm hd h
    go_enter Tryd.func6, Tryd.ntmps6
    go_wp2_with (first
      | (go_at_call 13; ((with_reducible refine (HK.out).mono ?_); rintro e w1 ⟨rfl, hb1⟩; obtain ⟨osA, dA, rfl⟩ := ext_of_below hb1; clear hb1))
      | (go_at_call 28; ((with_reducible refine (HQ.out _).mono ?_); rintro e w' ⟨rfl, rfl⟩))
      | (go_at_call 29; ((with_reducible refine (HP.out _ (HL.out _ (by (repeat' (first | (with_reducible exact Below.refl _ _) | (with_reducible assumption) | (with_reducible refine Below.alloc ?_ ?_ _) | (with_reducible refine below_drewN ?_ _) | (with_reducible refine below_drew ?_) | (with_reducible refine below_ext ?_ ?_ _ _) | (with_reducible refine Below.setCell ?_ ?_ _) | (simp; done) | (simp; omega) | omega)))).lens).mono ?_); rintro e w1 ⟨rfl, hb1⟩; obtain ⟨osB, dB, rfl⟩ := ext_of_below hb1; clear hb1))
      | (go_at_call 30; ((with_reducible refine (HV.out _).mono ?_); rintro e w1 ⟨rfl, hb1⟩; obtain ⟨osC, dC, rfl⟩ := ext_of_below hb1; clear hb1))
      | (go_at_call 31; ((with_reducible refine (HU.out _ (HL.out _ (by (repeat' (first | (with_reducible exact Below.refl _ _) | (with_reducible assumption) | (with_reducible refine Below.alloc ?_ ?_ _) | (with_reducible refine below_drewN ?_ _) | (with_reducible refine below_drew ?_) | (with_reducible refine below_ext ?_ ?_ _ _) | (with_reducible refine Below.setCell ?_ ?_ _) | (simp; done) | (simp; omega) | omega))))).mono ?_); rintro e w1 ⟨rfl, hb1⟩; obtain ⟨osD, dD, rfl⟩ := ext_of_below hb1; clear hb1))
      | (go_at_call 29; ((with_reducible refine (HB.out _ (HL.out _ (by (repeat' (first | (with_reducible exact Below.refl _ _) | (with_reducible assumption) | (with_reducible refine Below.alloc ?_ ?_ _) | (with_reducible refine below_drewN ?_ _) | (with_reducible refine below_drew ?_) | (with_reducible refine below_ext ?_ ?_ _ _) | (with_reducible refine Below.setCell ?_ ?_ _) | (simp; done) | (simp; omega) | omega)))).lens).mono ?_); rintro e w1 ⟨rfl, hb1⟩; obtain ⟨osE, dE, rfl⟩ := ext_of_below hb1; clear hb1)))
    go_ret
    exact ⟨rfl, by (repeat' (first | (with_reducible exact Below.refl _ _) | (with_reducible assumption) | (with_reducible refine Below.alloc ?_ ?_ _) | (with_reducible refine below_drewN ?_ _) | (with_reducible refine below_drew ?_) | (with_reducible refine below_ext ?_ ?_ _ _) | (with_reducible refine Below.setCell ?_ ?_ _) | (simp; done) | (simp; omega) | omega))⟩
  · have HN := Lib.hid (show n < 1 ∨ 3652059 < n by omega)
    clear h
    go_enter Tryd.func6, Tryd.ntmps6
    go_wp2_with (first
      | (go_at_call 13; ((with_reducible refine (HK.out).mono ?_); rintro e w1 ⟨rfl, hb1⟩; obtain ⟨osA, dA, rfl⟩ := ext_of_below hb1; clear hb1))
      | (go_at_call 28; ((with_reducible refine (HQ.out _).mono ?_); rintro e w' ⟨rfl, rfl⟩))
      | (go_at_call 29; ((with_reducible refine (HP.out _ (HL.out _ (by (repeat' (first | (with_reducible exact Below.refl _ _) | (with_reducible assumption) | (with_reducible refine Below.alloc ?_ ?_ _) | (with_reducible refine below_drewN ?_ _) | (with_reducible refine below_drew ?_) | (with_reducible refine below_ext ?_ ?_ _ _) | (with_reducible refine Below.setCell ?_ ?_ _) | (simp; done) | (simp; omega) | omega)))).lens).mono ?_); rintro e w1 ⟨rfl, hb1⟩; obtain ⟨osB, dB, rfl⟩ := ext_of_below hb1; clear hb1))
      | (go_at_call 30; ((with_reducible refine (DocPrint_bad n HN.out _).mono ?_); rintro e w' ⟨rfl, rfl⟩))
      | (go_at_call 31; ((with_reducible refine (Print_bad n HN.out _).mono ?_); rintro e w' ⟨rfl, rfl⟩)))
    go_ret
    exact ⟨rfl, by (repeat' (first | (with_reducible exact Below.refl _ _) | (with_reducible assumption) | (with_reducible refine Below.alloc ?_ ?_ _) | (with_reducible refine below_drewN ?_ _) | (with_reducible refine below_drew ?_) | (with_reducible refine below_ext ?_ ?_ _ _) | (with_reducible refine Below.setCell ?_ ?_ _) | (simp; done) | (simp; omega) | omega))⟩
end Go.Proofs.YtcfgjhfgjckbbaaDoor
