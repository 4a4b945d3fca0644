/-
  The document's token at a place.
-/
import Derived.Test.YtonajmngchfjeaaGreatDoorLexI
import Derived.Test.YtonajmngchfjeaaGreatDoorLexJ
import Derived.Test.YtonajmngchfjeaaGreatDoorLexD
namespace Go.Proofs.YtonajmngchfjeaaGreatDoor
open Go.RowKit Word Txt
open Lx (Tok)
attribute [local go_sem] setCell_drewN cell?_ext frozen?_ext shape?_ext setCell_ext lt_1' ne_1' en_1' le_1' lt_2' ne_2' en_2' le_2' lt_3' ne_3' en_3' le_3' lt_4' ne_4' en_4' le_4' lt_5' ne_5' en_5' le_5' lt_6' ne_6' en_6' le_6' lt_7' ne_7' en_7' le_7' lt_8' ne_8' en_8' le_8' lt_9' ne_9' en_9' le_9' lt_10' ne_10' en_10' le_10' lt_11' ne_11' en_11' le_11' lt_12' ne_12' en_12' le_12'

theorem cut_ext (s : ByteArray) (i k : Nat) : s.extract i (i + k) = ⟨((s.data.toList.drop i).take k).toArray⟩ := by
  apply bs_of; rw [ext_list, show i + k - i = k by omega]
theorem u8z (c k : UInt8) : ((c.toNat : Int) == (k.toNat : Int)) = (c == k) := by
  by_cases h : c = k
  · subst h; simp
  · rw [beq_eq_false_iff_ne.2 h]; exact i64_beq_u8 h
set_option maxHeartbeats 8000000 in
theorem rtext_no (s : ByteArray) (hs : s.size ≤ 1000) (i : Nat) (hi : i ≤ s.size) (hq : Lx.quoLen (s.data.toList.drop i) = none) (w : World) :
    Calls Tryz.prog 20 #[.string s, .int .i64 (i : Int)] w fun e w' => e = .returned (.tuple #[.string { data := #[] }, .int .i64 0, .bool false]) ∧ Below w.heap.size w w' := by
  by_cases h1 : i < s.size
  · by_cases h2 : s[i] = 34
    · have hQ := rquoted_any s hs i h1 h2
      rw [hq] at hQ
      have HQ := Lib.hid (show ∀ w, Calls Tryz.prog 40 #[.string s, .int .i64 (i : Int)] w fun e w' => e = .returned (.int .i64 (-1)) ∧ w = w' from hQ)
      have g2 : ((s[i]'h1).toNat : Int) = 34 := by rw [h2]; rfl
      have g1 : (i : Int) < s.size := by omega
      clear hQ hq h2
      go_enter Tryz.func20, Tryz.ntmps20
      go_wp2_with ((go_at_call 40; ((with_reducible refine (HQ.out _).mono ?_); rintro e w' ⟨rfl, rfl⟩)))
      go_returns
      exact ⟨rfl, by (repeat' (first | (with_reducible exact Below.refl _ _) | (with_reducible assumption) | (with_reducible refine Below.alloc ?_ ?_ _) | (with_reducible refine below_drewN ?_ _) | (with_reducible refine below_drew ?_) | (with_reducible refine below_ext ?_ ?_ _ _) | (with_reducible refine Below.setCell ?_ ?_ _) | (simp; done) | (simp; omega) | omega))⟩
    · have g2 : (((s[i]'h1).toNat : Int) == 34) = false := i64_beq_u8 (k := 34) h2
      have g3 : (((s[i]'h1).toNat : Int) != 34) = true := by rw [bne, g2]; rfl
      have g1 : (i : Int) < s.size := by omega
      clear h2 hq
      go_enter Tryz.func20, Tryz.ntmps20
      go_wp2
      go_returns
      exact ⟨rfl, by (repeat' (first | (with_reducible exact Below.refl _ _) | (with_reducible assumption) | (with_reducible refine Below.alloc ?_ ?_ _) | (with_reducible refine below_drewN ?_ _) | (with_reducible refine below_drew ?_) | (with_reducible refine below_ext ?_ ?_ _ _) | (with_reducible refine Below.setCell ?_ ?_ _) | (simp; done) | (simp; omega) | omega))⟩
  · have g1 : ¬ (i : Int) < s.size := by omega
    go_enter Tryz.func20, Tryz.ntmps20
    go_wp2
    go_returns
    exact ⟨rfl, by (repeat' (first | (with_reducible exact Below.refl _ _) | (with_reducible assumption) | (with_reducible refine Below.alloc ?_ ?_ _) | (with_reducible refine below_drewN ?_ _) | (with_reducible refine below_drew ?_) | (with_reducible refine below_ext ?_ ?_ _ _) | (with_reducible refine Below.setCell ?_ ?_ _) | (simp; done) | (simp; omega) | omega))⟩
theorem quo_head {s : ByteArray} {i k : Nat} (hq : Lx.quoLen (s.data.toList.drop i) = some k) : ∃ h : i < s.size, s[i] = 34 := by
  have hz : s.data.toList.length = s.size := rfl
  by_cases h : i < s.size
  · refine ⟨h, ?_⟩
    rw [List.drop_eq_getElem_cons (by omega), Lx.quoLen] at hq
    by_cases e : s.data.toList[i]'(by omega) = 34
    · exact e
    · rw [if_neg e] at hq; cases hq
  · rw [List.drop_of_length_le (by omega)] at hq; cases hq
set_option maxHeartbeats 8000000 in
theorem rtext_yes {F : Lx.Fn} (hF : FOK F) (s : ByteArray) (hs : s.size ≤ 1000) (i k : Nat) (hq : Lx.quoLen (s.data.toList.drop i) = some k) (w : World) :
    Calls Tryz.prog 20 #[.string s, .int .i64 (i : Int)] w fun e w' => e = .returned (.tuple #[.string ⟨(F.uq ((s.data.toList.drop i).take k)).1.toArray⟩, .int .i64 ((i + k : Nat) : Int), .bool ((F.uq ((s.data.toList.drop i).take k)).2 == 0)]) ∧ Below w.heap.size w w' := by
  have hz : s.data.toList.length = s.size := rfl
  obtain ⟨h1, h2⟩ := quo_head hq
  have hk := Lx.quoLen_le hq
  rw [List.length_drop] at hk
  have hQ := rquoted_any s hs i h1 h2
  rw [hq] at hQ
  obtain ⟨j, hj⟩ : ∃ j, j = i + k := ⟨_, rfl⟩
  have HQ := Lib.hid (show ∀ w, Calls Tryz.prog 40 #[.string s, .int .i64 (i : Int)] w fun e w' => e = .returned (.int .i64 (j : Int)) ∧ w = w' by
    intro w; have := hQ w; rw [show endZ ((some k).map (· + i)) = (j : Int) by rw [hj, Nat.add_comm]; rfl] at this; exact this)
  have k1 := lx_slice s (i : Int) (j : Int) i j rfl rfl (by omega) (by omega)
  obtain ⟨X, hX⟩ : ∃ X, X = s.extract i j := ⟨_, rfl⟩
  rw [← hX] at k1
  rw [hj, cut_ext] at hX
  have hU := (hF.uq ((s.data.toList.drop i).take k) (by rw [List.length_take, List.length_drop]; omega))
  rw [← hX] at hU
  obtain ⟨⟨t, eu⟩, hte⟩ : ∃ q, q = F.uq ((s.data.toList.drop i).take k) := ⟨_, rfl⟩
  rw [← hte] at hU ⊢
  rw [← hj]
  have HU := Lib.hid hU
  have g2 : ((s[i]'h1).toNat : Int) = 34 := by rw [h2]; rfl
  have g1 : (i : Int) < s.size := by omega
  have g3 : ¬ (j : Int) < 0 := by omega
  clear hQ hq h2 hU hte hX hF hj
  go_enter Tryz.func20, Tryz.ntmps20
  go_wp2_with (first | (go_at_call 40; ((with_reducible refine (HQ.out _).mono ?_); rintro e w' ⟨rfl, rfl⟩)) | (go_at_call 41; ((with_reducible refine (HU.out _).mono ?_); rintro e w1 ⟨rfl, hb1⟩; obtain ⟨osA, dA, rfl⟩ := ext_of_below hb1; clear hb1)))
  go_returns
  exact ⟨rfl, by (repeat' (first | (with_reducible exact Below.refl _ _) | (with_reducible assumption) | (with_reducible refine Below.alloc ?_ ?_ _) | (with_reducible refine below_drewN ?_ _) | (with_reducible refine below_drew ?_) | (with_reducible refine below_ext ?_ ?_ _ _) | (with_reducible refine Below.setCell ?_ ?_ _) | (simp; done) | (simp; omega) | omega))⟩
/-- what the document's token at a place answers -/
def OneR (i : Nat) (o : Lx.One) (e : Ending) : Prop :=
  ∃ (kd : Int) (tx : ByteArray) (ng : Bool) (x y sc dy az k : Int), e = .returned (.tuple #[.agg #[.int .i64 kd, .string tx, .bool ng, .int .u64 x, .int .u64 y, .int .i64 sc, .int .i64 dy, .int .i64 az], .int .i64 k, .int .i64 o.err]) ∧ (o.err ≠ 5 → Value.agg #[.int .i64 kd, .string tx, .bool ng, .int .u64 x, .int .u64 y, .int .i64 sc, .int .i64 dy, .int .i64 az] = .agg (tkC { o.tok with at_ := i }).toArray ∧ k = ((i + o.len : Nat) : Int))
theorem oneR_bad {i : Nat} {o : Lx.One} {e : Ending} {kd : Int} {tx : ByteArray} {ng : Bool} {x y sc dy az k : Int} (h : o.err = 5) (he : e = .returned (.tuple #[.agg #[.int .i64 kd, .string tx, .bool ng, .int .u64 x, .int .u64 y, .int .i64 sc, .int .i64 dy, .int .i64 az], .int .i64 k, .int .i64 5])) : OneR i o e := ⟨kd, tx, ng, x, y, sc, dy, az, k, by rw [h]; exact he, fun h2 => absurd h h2⟩
theorem oneR_good {i : Nat} {o : Lx.One} {e : Ending} {kd : Int} {tx : ByteArray} {ng : Bool} {x y sc dy az k : Int} (er : Int) (h : o.err = er) (ht : Value.agg #[.int .i64 kd, .string tx, .bool ng, .int .u64 x, .int .u64 y, .int .i64 sc, .int .i64 dy, .int .i64 az] = .agg (tkC { o.tok with at_ := i }).toArray) (hk : k = ((i + o.len : Nat) : Int)) (he : e = .returned (.tuple #[.agg #[.int .i64 kd, .string tx, .bool ng, .int .u64 x, .int .u64 y, .int .i64 sc, .int .i64 dy, .int .i64 az], .int .i64 k, .int .i64 er])) : OneR i o e := ⟨kd, tx, ng, x, y, sc, dy, az, k, by rw [h]; exact he, fun _ => ⟨ht, hk⟩⟩
set_option maxRecDepth 100000 in
set_option maxHeartbeats 8000000 in
theorem rone_num {F : Lx.Fn} (hF : FOK F) (s : ByteArray) (hs : s.size ≤ 1000) (i : Nat) (hlt : i < s.size) (hd : Lx.dg s[i] = true) (w : World) :
    Calls Tryz.prog 12 #[.string s, .int .i64 (i : Int)] w fun e w' => OneR i (Lx.numOne F (s.data.toList.drop i)) e ∧ Below w.heap.size w w' := by
  have hz : s.data.toList.length = s.size := rfl
  have hle := Lx.numLen_le (s.data.toList.drop i)
  rw [List.length_drop] at hle
  have hN := rnumberEnd_any s hs i (by omega)
  obtain ⟨n, hn⟩ : ∃ n, n = Lx.numLen (s.data.toList.drop i) := ⟨_, rfl⟩
  have hcall := (hF.num ((s.data.toList.drop i).take n) (by rw [List.length_take, List.length_drop]; omega))
  obtain ⟨⟨neg, c, sc, er⟩, hq⟩ : ∃ q, q = F.num ((s.data.toList.drop i).take n) := ⟨_, rfl⟩
  have HO := Lib.hid (show Lx.numOne F (s.data.toList.drop i) = ⟨⟨1, [], neg, c, sc, 0, 0⟩, n, er⟩ by unfold Lx.numOne; rw [← hn, ← hq])
  rw [← hq] at hcall
  rw [← hn] at hN hle
  obtain ⟨j, hj⟩ : ∃ j, j = i + n := ⟨_, rfl⟩
  rw [← hj] at hN
  have k1 := lx_slice s (i : Int) (j : Int) i j rfl rfl (by omega) (by omega)
  obtain ⟨X, hX⟩ : ∃ X, X = s.extract i j := ⟨_, rfl⟩
  rw [← hX] at k1
  rw [hj, cut_ext] at hX
  rw [← hX] at hcall
  obtain ⟨x, hx⟩ : ∃ x, x = ((hi c : Nat) : Int) := ⟨_, rfl⟩
  obtain ⟨y, hy⟩ : ∃ y, y = ((lo c : Nat) : Int) := ⟨_, rfl⟩
  have HD : D neg c sc = .agg #[.bool neg, .int .u64 x, .int .u64 y, .int .i64 sc] := by rw [hx, hy]
  have hcall' : ∀ w, Calls Tryz.prog 19 #[.string X] w fun r w' => r = .returned (.tuple #[.agg #[.bool neg, .int .u64 x, .int .u64 y, .int .i64 sc], .int .i64 er]) ∧ Below w.heap.size w w' := by
    rw [← HD]; exact hcall
  have HC := Lib.hid hcall'
  have HN := Lib.hid hN
  have hD := rdigit_any (s[i]'hlt).toNat
  rw [show digN (s[i]'hlt).toNat = true from hd] at hD
  have HDG := Lib.hid hD
  have HT := Lib.hid (show Value.agg #[.int .i64 1, .string { data := #[] }, .bool neg, .int .u64 x, .int .u64 y, .int .i64 sc, .int .i64 0, .int .i64 (i : Int)] = .agg (tkC { (⟨1, [], neg, c, sc, 0, 0⟩ : Tok) with at_ := i }).toArray by rw [hx, hy]; rfl)
  have HJ := Lib.hid hj
  clear hD hd hN hcall hcall' hX hq hn hF HD hx hy hj
  rw [HO.out]
  go_enter Tryz.func12, Tryz.ntmps12
  go_wp2_with (first | (go_at_call 16; ((with_reducible refine (HDG.out _).mono ?_); rintro e w' ⟨rfl, rfl⟩)) | (go_at_call 18; ((with_reducible refine (HN.out _).mono ?_); rintro e w' ⟨rfl, rfl⟩)) | (go_at_call 19; ((with_reducible refine (HC.out _).mono ?_); rintro e w1 ⟨rfl, hb1⟩; obtain ⟨osA, dA, rfl⟩ := ext_of_below hb1; clear hb1)))
  go_region
  all_goals
    go_wp2
    go_returns
    exact ⟨oneR_good _ rfl HT.out (by rw [HJ.out]) rfl, by (repeat' (first | (with_reducible exact Below.refl _ _) | (with_reducible assumption) | (with_reducible refine Below.alloc ?_ ?_ _) | (with_reducible refine below_drewN ?_ _) | (with_reducible refine below_drew ?_) | (with_reducible refine below_ext ?_ ?_ _ _) | (with_reducible refine Below.setCell ?_ ?_ _) | (simp; done) | (simp; omega) | omega))⟩
theorem dig_34 (w : World) : Calls Tryz.prog 16 #[.int .u8 34] w fun e w' => e = .returned (.bool false) ∧ w = w' := rdigit_any 34 w
theorem dig_64 (w : World) : Calls Tryz.prog 16 #[.int .u8 64] w fun e w' => e = .returned (.bool false) ∧ w = w' := rdigit_any 64 w
set_option maxRecDepth 100000 in
set_option maxHeartbeats 8000000 in
theorem rone_str {F : Lx.Fn} (hF : FOK F) (s : ByteArray) (hs : s.size ≤ 1000) (i : Nat) (hlt : i < s.size) (hd : s[i] = 34) (w : World) :
    Calls Tryz.prog 12 #[.string s, .int .i64 (i : Int)] w fun e w' => OneR i (Lx.strOne F (s.data.toList.drop i)) e ∧ Below w.heap.size w w' := by
  have hz : ((s[i]'hlt).toNat : Int) = 34 := by rw [hd]; rfl
  cases hq : Lx.quoLen (s.data.toList.drop i) with
  | none =>
    have HX := Lib.hid (rtext_no s hs i (by omega) hq)
    have HE := Lib.hid (show (Lx.strOne F (s.data.toList.drop i)).err = 5 by unfold Lx.strOne; rw [hq]; rfl)
    clear hq hd hF
    go_enter Tryz.func12, Tryz.ntmps12
    go_wp2_with (first | (go_at_call 16; ((with_reducible refine (dig_34 _).mono ?_); rintro e w' ⟨rfl, rfl⟩)) | (go_at_call 20; ((with_reducible refine (HX.out _).mono ?_); rintro e w1 ⟨rfl, hb1⟩; obtain ⟨osA, dA, rfl⟩ := ext_of_below hb1; clear hb1)))
    go_returns
    exact ⟨oneR_bad HE.out rfl, by (repeat' (first | (with_reducible exact Below.refl _ _) | (with_reducible assumption) | (with_reducible refine Below.alloc ?_ ?_ _) | (with_reducible refine below_drewN ?_ _) | (with_reducible refine below_drew ?_) | (with_reducible refine below_ext ?_ ?_ _ _) | (with_reducible refine Below.setCell ?_ ?_ _) | (simp; done) | (simp; omega) | omega))⟩
  | some k =>
    have hx := rtext_yes hF s hs i k hq
    obtain ⟨j, hj⟩ : ∃ j, j = i + k := ⟨_, rfl⟩
    obtain ⟨⟨t, eu⟩, hte⟩ : ∃ q, q = F.uq ((s.data.toList.drop i).take k) := ⟨_, rfl⟩
    rw [← hte, ← hj] at hx
    by_cases he : eu = 0
    · subst he
      have HX := Lib.hid (show ∀ w, Calls Tryz.prog 20 #[.string s, .int .i64 (i : Int)] w fun e w' => e = .returned (.tuple #[.string ⟨t.toArray⟩, .int .i64 (j : Int), .bool true]) ∧ Below w.heap.size w w' from hx)
      have HO := Lib.hid (show Lx.strOne F (s.data.toList.drop i) = ⟨⟨2, t, false, 0, 0, 0, 0⟩, k, 0⟩ by unfold Lx.strOne; rw [hq]; show (if _ then _ else Lx.noOne : Lx.One) = _; rw [← hte, if_pos rfl])
      have HJ := Lib.hid hj
      clear hq hd hF hte hx hj
      rw [HO.out]
      go_enter Tryz.func12, Tryz.ntmps12
      go_wp2_with (first | (go_at_call 16; ((with_reducible refine (dig_34 _).mono ?_); rintro e w' ⟨rfl, rfl⟩)) | (go_at_call 20; ((with_reducible refine (HX.out _).mono ?_); rintro e w1 ⟨rfl, hb1⟩; obtain ⟨osA, dA, rfl⟩ := ext_of_below hb1; clear hb1)))
      try go_region
      all_goals
        go_wp2
        go_returns
        exact ⟨oneR_good 0 rfl (by simp only [tkC, hi_nought]; rfl) (by rw [HJ.out]) rfl, by (repeat' (first | (with_reducible exact Below.refl _ _) | (with_reducible assumption) | (with_reducible refine Below.alloc ?_ ?_ _) | (with_reducible refine below_drewN ?_ _) | (with_reducible refine below_drew ?_) | (with_reducible refine below_ext ?_ ?_ _ _) | (with_reducible refine Below.setCell ?_ ?_ _) | (simp; done) | (simp; omega) | omega))⟩
    · have hb : (eu == 0) = false := by simpa using he
      have hx2 : ∀ w, Calls Tryz.prog 20 #[.string s, .int .i64 (i : Int)] w fun e w' => e = .returned (.tuple #[.string ⟨t.toArray⟩, .int .i64 (j : Int), .bool false]) ∧ Below w.heap.size w w' := by
        intro w; have := hx w; rw [hb] at this; exact this
      have HX := Lib.hid hx2
      have HE := Lib.hid (show (Lx.strOne F (s.data.toList.drop i)).err = 5 by unfold Lx.strOne; rw [hq]; show (if _ then _ else Lx.noOne : Lx.One).err = 5; rw [← hte, if_neg he]; rfl)
      clear hq hd hF hx hx2 hte hb he hj
      go_enter Tryz.func12, Tryz.ntmps12
      go_wp2_with (first | (go_at_call 16; ((with_reducible refine (dig_34 _).mono ?_); rintro e w' ⟨rfl, rfl⟩)) | (go_at_call 20; ((with_reducible refine (HX.out _).mono ?_); rintro e w1 ⟨rfl, hb1⟩; obtain ⟨osA, dA, rfl⟩ := ext_of_below hb1; clear hb1)))
      go_returns
      exact ⟨oneR_bad HE.out rfl, by (repeat' (first | (with_reducible exact Below.refl _ _) | (with_reducible assumption) | (with_reducible refine Below.alloc ?_ ?_ _) | (with_reducible refine below_drewN ?_ _) | (with_reducible refine below_drew ?_) | (with_reducible refine below_ext ?_ ?_ _ _) | (with_reducible refine Below.setCell ?_ ?_ _) | (simp; done) | (simp; omega) | omega))⟩
set_option maxRecDepth 100000 in
set_option maxHeartbeats 8000000 in
theorem rone_date {F : Lx.Fn} (hF : FOK F) (s : ByteArray) (hs : s.size ≤ 1000) (i : Nat) (hlt : i < s.size) (hd : s[i] = 64) (w : World) :
    Calls Tryz.prog 12 #[.string s, .int .i64 (i : Int)] w fun e w' => OneR i (Lx.dateOne F (s.data.toList.drop (i + 1))) e ∧ Below w.heap.size w w' := by
  have hz : ((s[i]'hlt).toNat : Int) = 64 := by rw [hd]; rfl
  cases hq : Lx.quoLen (s.data.toList.drop (i + 1)) with
  | none =>
    have HX := Lib.hid (show ∀ w, Calls Tryz.prog 20 #[.string s, .int .i64 ((i : Int) + 1)] w fun e w' => e = .returned (.tuple #[.string { data := #[] }, .int .i64 0, .bool false]) ∧ Below w.heap.size w w' from rtext_no s hs (i + 1) (by omega) hq)
    have HE := Lib.hid (show (Lx.dateOne F (s.data.toList.drop (i + 1))).err = 5 by unfold Lx.dateOne; rw [hq]; rfl)
    clear hq hd hF
    go_enter Tryz.func12, Tryz.ntmps12
    go_wp2_with (first | (go_at_call 16; ((with_reducible refine (dig_64 _).mono ?_); rintro e w' ⟨rfl, rfl⟩)) | (go_at_call 20; ((with_reducible refine (HX.out _).mono ?_); rintro e w1 ⟨rfl, hb1⟩; obtain ⟨osA, dA, rfl⟩ := ext_of_below hb1; clear hb1)))
    go_returns
    exact ⟨oneR_bad HE.out rfl, by (repeat' (first | (with_reducible exact Below.refl _ _) | (with_reducible assumption) | (with_reducible refine Below.alloc ?_ ?_ _) | (with_reducible refine below_drewN ?_ _) | (with_reducible refine below_drew ?_) | (with_reducible refine below_ext ?_ ?_ _ _) | (with_reducible refine Below.setCell ?_ ?_ _) | (simp; done) | (simp; omega) | omega))⟩
  | some k =>
    have hx := rtext_yes hF s hs (i + 1) k hq
    obtain ⟨j, hj⟩ : ∃ j, j = i + 1 + k := ⟨_, rfl⟩
    obtain ⟨⟨t, eu⟩, hte⟩ : ∃ q, q = F.uq ((s.data.toList.drop (i + 1)).take k) := ⟨_, rfl⟩
    rw [← hte, ← hj] at hx
    by_cases he : eu = 0
    · subst he
      have HX := Lib.hid (show ∀ w, Calls Tryz.prog 20 #[.string s, .int .i64 ((i : Int) + 1)] w fun e w' => e = .returned (.tuple #[.string ⟨t.toArray⟩, .int .i64 (j : Int), .bool true]) ∧ Below w.heap.size w w' from hx)
      have hp := hF.day t
      obtain ⟨⟨day, ed⟩, hde⟩ : ∃ q, q = F.day t := ⟨_, rfl⟩
      rw [← hde] at hp
      have HP := Lib.hid (show ∀ w, Calls Tryz.prog 21 #[.string ⟨t.toArray⟩] w fun e w' => e = .returned (.tuple #[.int .i64 day, .int .i64 ed]) ∧ w = w' from hp)
      have HO := Lib.hid (show Lx.dateOne F (s.data.toList.drop (i + 1)) = ⟨⟨3, [], false, 0, 0, day, 0⟩, k + 1, ed⟩ by unfold Lx.dateOne; rw [hq]; show (if _ then _ else Lx.noOne : Lx.One) = _; rw [← hte, if_pos rfl]; show (⟨⟨3, [], false, 0, 0, (F.day t).1, 0⟩, k + 1, (F.day t).2⟩ : Lx.One) = _; rw [← hde])
      have HJ := Lib.hid (show j = i + (k + 1) by omega)
      clear hq hd hF hte hx hj hp hde
      rw [HO.out]
      go_enter Tryz.func12, Tryz.ntmps12
      go_wp2_with (first | (go_at_call 16; ((with_reducible refine (dig_64 _).mono ?_); rintro e w' ⟨rfl, rfl⟩)) | (go_at_call 20; ((with_reducible refine (HX.out _).mono ?_); rintro e w1 ⟨rfl, hb1⟩; obtain ⟨osA, dA, rfl⟩ := ext_of_below hb1; clear hb1)) | (go_at_call 21; ((with_reducible refine (HP.out _).mono ?_); rintro e w' ⟨rfl, rfl⟩)))
      try go_region
      all_goals
        go_wp2
        go_returns
        exact ⟨oneR_good ed rfl (by simp only [tkC, hi_nought]; rfl) (by rw [HJ.out]) rfl, by (repeat' (first | (with_reducible exact Below.refl _ _) | (with_reducible assumption) | (with_reducible refine Below.alloc ?_ ?_ _) | (with_reducible refine below_drewN ?_ _) | (with_reducible refine below_drew ?_) | (with_reducible refine below_ext ?_ ?_ _ _) | (with_reducible refine Below.setCell ?_ ?_ _) | (simp; done) | (simp; omega) | omega))⟩
    · have hb : (eu == 0) = false := by simpa using he
      have hx2 : ∀ w, Calls Tryz.prog 20 #[.string s, .int .i64 ((i : Int) + 1)] w fun e w' => e = .returned (.tuple #[.string ⟨t.toArray⟩, .int .i64 (j : Int), .bool false]) ∧ Below w.heap.size w w' := by
        intro w; have := hx w; rw [hb] at this; exact this
      have HX := Lib.hid hx2
      have HE := Lib.hid (show (Lx.dateOne F (s.data.toList.drop (i + 1))).err = 5 by unfold Lx.dateOne; rw [hq]; show (if _ then _ else Lx.noOne : Lx.One).err = 5; rw [← hte, if_neg he]; rfl)
      clear hq hd hF hx hx2 hte hb he hj
      go_enter Tryz.func12, Tryz.ntmps12
      go_wp2_with (first | (go_at_call 16; ((with_reducible refine (dig_64 _).mono ?_); rintro e w' ⟨rfl, rfl⟩)) | (go_at_call 20; ((with_reducible refine (HX.out _).mono ?_); rintro e w1 ⟨rfl, hb1⟩; obtain ⟨osA, dA, rfl⟩ := ext_of_below hb1; clear hb1)))
      go_returns
      exact ⟨oneR_bad HE.out rfl, by (repeat' (first | (with_reducible exact Below.refl _ _) | (with_reducible assumption) | (with_reducible refine Below.alloc ?_ ?_ _) | (with_reducible refine below_drewN ?_ _) | (with_reducible refine below_drew ?_) | (with_reducible refine below_ext ?_ ?_ _ _) | (with_reducible refine Below.setCell ?_ ?_ _) | (simp; done) | (simp; omega) | omega))⟩
set_option maxRecDepth 100000 in
set_option maxHeartbeats 8000000 in
theorem rone_word {F : Lx.Fn} (hF : FOK F) (s : ByteArray) (hs : s.size ≤ 1000) (i : Nat) (hlt : i < s.size) (hd : Lx.dg s[i] = false) (hl : Lx.lt s[i] = true) (w : World) :
    Calls Tryz.prog 12 #[.string s, .int .i64 (i : Int)] w fun e w' => OneR i (Lx.wordOne F (s.data.toList.drop i)) e ∧ Below w.heap.size w w' := by
  have hzz : s.data.toList.length = s.size := rfl
  have h34 : (((s[i]'hlt).toNat : Int) == 34) = false := i64_beq_u8 (k := 34) (fun e => by rw [e] at hl; exact absurd hl (by decide))
  have h64 : (((s[i]'hlt).toNat : Int) == 64) = false := i64_beq_u8 (k := 64) (fun e => by rw [e] at hl; exact absurd hl (by decide))
  have hD := rdigit_any (s[i]'hlt).toNat
  rw [show digN (s[i]'hlt).toNat = false from hd] at hD
  have hL := rletter_any (s[i]'hlt).toNat
  rw [show letN (s[i]'hlt).toNat = true from hl] at hL
  have hN := rwordEnd_any s hs i (by omega)
  have hle : Lx.wordLen (s.data.toList.drop i) ≤ s.size - i := by
    have := Lx.run_le (fun c => Lx.lt c || Lx.dg c) (s.data.toList.drop i)
    rw [List.length_drop] at this
    exact this
  obtain ⟨n, hn⟩ : ∃ n, n = Lx.wordLen (s.data.toList.drop i) := ⟨_, rfl⟩
  have HO := Lib.hid (show Lx.wordOne F (s.data.toList.drop i) = if n ≤ 64 then ⟨⟨if isWord ⟨((s.data.toList.drop i).take n).toArray⟩ = true then 5 else 4, (s.data.toList.drop i).take n, false, 0, 0, 0, 0⟩, n, 0⟩ else Lx.noOne by unfold Lx.wordOne; rw [← hn, hF.prog.word])
  rw [← hn] at hN hle
  obtain ⟨j, hj⟩ : ∃ j, j = i + n := ⟨_, rfl⟩
  rw [← hj] at hN
  have k1 := lx_slice s (i : Int) (j : Int) i j rfl rfl (by omega) (by omega)
  obtain ⟨l, hl9⟩ : ∃ l, l = (s.data.toList.drop i).take n := ⟨_, rfl⟩
  rw [← hl9] at HO
  obtain ⟨X, hX⟩ : ∃ X, X = s.extract i j := ⟨_, rfl⟩
  rw [← hX] at k1
  rw [hj, cut_ext, ← hl9] at hX
  rw [← hX] at HO
  obtain ⟨z, hz⟩ : ∃ z, ((s[i]'hlt).toNat : Int) = z := ⟨_, rfl⟩
  rw [hz] at hD hL h34 h64
  have HD := Lib.hid hD; have HL := Lib.hid hL; have HN := Lib.hid hN
  have hwd := rword_any X
  have hw : IntKind.i64.wrap ((j : Int) - (i : Int)) = (n : Int) := by rw [IntWalk.i64_in _ (by omega)]; omega
  have HJ := Lib.hid hj
  have HXX := Lib.hid hX
  clear hD hL hN hX hl9 hn hj hl hd hF
  by_cases hg : n ≤ 64
  · have g64 : (n : Int) ≤ 64 := by omega
    rw [if_pos hg] at HO
    cases hb : isWord X with
    | true =>
      rw [hb] at hwd
      rw [hb, if_pos rfl] at HO
      have HW := Lib.hid hwd
      clear hwd hb
      rw [HO.out]
      go_enter Tryz.func12, Tryz.ntmps12
      go_wp2_with (first | (go_at_call 16; ((with_reducible refine (HD.out _).mono ?_); rintro e w' ⟨rfl, rfl⟩)) | (go_at_call 15; ((with_reducible refine (HL.out _).mono ?_); rintro e w' ⟨rfl, rfl⟩)) | (go_at_call 22; ((with_reducible refine (HN.out _).mono ?_); rintro e w' ⟨rfl, rfl⟩)))
      go_region
      all_goals
        go_wp2_with ((go_at_call 10; ((with_reducible refine (HW.out _).mono ?_); rintro e w' ⟨rfl, rfl⟩)))
        go_returns
        exact ⟨oneR_good 0 rfl (by rw [HXX.out]; simp only [tkC, hi_nought]; rfl) (by rw [HJ.out]) rfl, by (repeat' (first | (with_reducible exact Below.refl _ _) | (with_reducible assumption) | (with_reducible refine Below.alloc ?_ ?_ _) | (with_reducible refine below_drewN ?_ _) | (with_reducible refine below_drew ?_) | (with_reducible refine below_ext ?_ ?_ _ _) | (with_reducible refine Below.setCell ?_ ?_ _) | (simp; done) | (simp; omega) | omega))⟩
    | false =>
      rw [hb] at hwd
      rw [hb, if_neg (by decide)] at HO
      have HW := Lib.hid hwd
      clear hwd hb
      rw [HO.out]
      go_enter Tryz.func12, Tryz.ntmps12
      go_wp2_with (first | (go_at_call 16; ((with_reducible refine (HD.out _).mono ?_); rintro e w' ⟨rfl, rfl⟩)) | (go_at_call 15; ((with_reducible refine (HL.out _).mono ?_); rintro e w' ⟨rfl, rfl⟩)) | (go_at_call 22; ((with_reducible refine (HN.out _).mono ?_); rintro e w' ⟨rfl, rfl⟩)))
      go_region
      all_goals
        go_wp2_with ((go_at_call 10; ((with_reducible refine (HW.out _).mono ?_); rintro e w' ⟨rfl, rfl⟩)))
        go_returns
        exact ⟨oneR_good 0 rfl (by rw [HXX.out]; simp only [tkC, hi_nought]; rfl) (by rw [HJ.out]) rfl, by (repeat' (first | (with_reducible exact Below.refl _ _) | (with_reducible assumption) | (with_reducible refine Below.alloc ?_ ?_ _) | (with_reducible refine below_drewN ?_ _) | (with_reducible refine below_drew ?_) | (with_reducible refine below_ext ?_ ?_ _ _) | (with_reducible refine Below.setCell ?_ ?_ _) | (simp; done) | (simp; omega) | omega))⟩
  · have g64 : ¬ (n : Int) ≤ 64 := by omega
    rw [if_neg hg] at HO
    have HE := Lib.hid (show (Lx.wordOne F (s.data.toList.drop i)).err = 5 by rw [HO.out]; rfl)
    have HW : Hid (∃ b, ∀ w, Calls Tryz.prog 10 #[.string X] w fun e w' => e = .returned (.bool b) ∧ w = w') := Lib.hid ⟨_, hwd⟩
    obtain ⟨b, hb⟩ := HW.out
    have HB := Lib.hid hb
    clear hwd hb HW
    cases b
    all_goals
      go_enter Tryz.func12, Tryz.ntmps12
      go_wp2_with (first | (go_at_call 16; ((with_reducible refine (HD.out _).mono ?_); rintro e w' ⟨rfl, rfl⟩)) | (go_at_call 15; ((with_reducible refine (HL.out _).mono ?_); rintro e w' ⟨rfl, rfl⟩)) | (go_at_call 22; ((with_reducible refine (HN.out _).mono ?_); rintro e w' ⟨rfl, rfl⟩)))
      go_region
      all_goals
        go_wp2_with ((go_at_call 10; ((with_reducible refine (HB.out _).mono ?_); rintro e w' ⟨rfl, rfl⟩)))
        go_returns
        exact ⟨oneR_bad HE.out rfl, by (repeat' (first | (with_reducible exact Below.refl _ _) | (with_reducible assumption) | (with_reducible refine Below.alloc ?_ ?_ _) | (with_reducible refine below_drewN ?_ _) | (with_reducible refine below_drew ?_) | (with_reducible refine below_ext ?_ ?_ _ _) | (with_reducible refine Below.setCell ?_ ?_ _) | (simp; done) | (simp; omega) | omega))⟩
set_option maxRecDepth 100000 in
set_option maxHeartbeats 8000000 in
theorem rone_sign (s : ByteArray) (hs : s.size ≤ 1000) (i : Nat) (hlt : i < s.size) (hd : Lx.dg s[i] = false) (hl : Lx.lt s[i] = false) (h3 : s[i] ≠ 64) (h4 : s[i] ≠ 34) (w : World) :
    Calls Tryz.prog 12 #[.string s, .int .i64 (i : Int)] w fun e w' => OneR i (Lx.signOne (s.data.toList.drop i)) e ∧ Below w.heap.size w w' := by
  have hzz : s.data.toList.length = s.size := rfl
  have h34 : (((s[i]'hlt).toNat : Int) == 34) = false := i64_beq_u8 (k := 34) h4
  have h64 : (((s[i]'hlt).toNat : Int) == 64) = false := i64_beq_u8 (k := 64) h3
  have hD := rdigit_any (s[i]'hlt).toNat
  rw [show digN (s[i]'hlt).toNat = false from hd] at hD
  have hL := rletter_any (s[i]'hlt).toNat
  rw [show letN (s[i]'hlt).toNat = false from hl] at hL
  have hN := rsign_any s hs i hlt
  have hle := Lx.sigLen_le (s.data.toList.drop i)
  rw [List.length_drop] at hle
  obtain ⟨n, hn⟩ : ∃ n, n = Lx.sigLen (s.data.toList.drop i) := ⟨_, rfl⟩
  rw [← hn] at hN hle
  have HO := Lib.hid (show Lx.signOne (s.data.toList.drop i) = if n = 0 then Lx.noOne else ⟨⟨6, (s.data.toList.drop i).take n, false, 0, 0, 0, 0⟩, n, 0⟩ by unfold Lx.signOne; rw [← hn])
  obtain ⟨z, hz⟩ : ∃ z, ((s[i]'hlt).toNat : Int) = z := ⟨_, rfl⟩
  rw [hz] at hD hL h34 h64
  have HD := Lib.hid hD; have HL := Lib.hid hL
  by_cases h0 : n = 0
  · rw [if_pos h0] at HO
    have HN := Lib.hid (show ∀ w, Calls Tryz.prog 23 #[.string s, .int .i64 (i : Int)] w fun e w' => e = .returned (.int .i64 (-1)) ∧ w = w' by
      intro w; have := hN w; rw [show sgE i n = -1 from if_pos h0] at this; exact this)
    have HE := Lib.hid (show (Lx.signOne (s.data.toList.drop i)).err = 5 by rw [HO.out]; rfl)
    clear hD hL hN hn hd hl h3 h4 h0
    go_enter Tryz.func12, Tryz.ntmps12
    go_wp2_with (first | (go_at_call 16; ((with_reducible refine (HD.out _).mono ?_); rintro e w' ⟨rfl, rfl⟩)) | (go_at_call 15; ((with_reducible refine (HL.out _).mono ?_); rintro e w' ⟨rfl, rfl⟩)) | (go_at_call 23; ((with_reducible refine (HN.out _).mono ?_); rintro e w' ⟨rfl, rfl⟩)))
    go_returns
    exact ⟨oneR_bad HE.out rfl, by (repeat' (first | (with_reducible exact Below.refl _ _) | (with_reducible assumption) | (with_reducible refine Below.alloc ?_ ?_ _) | (with_reducible refine below_drewN ?_ _) | (with_reducible refine below_drew ?_) | (with_reducible refine below_ext ?_ ?_ _ _) | (with_reducible refine Below.setCell ?_ ?_ _) | (simp; done) | (simp; omega) | omega))⟩
  · rw [if_neg h0] at HO
    obtain ⟨j, hj⟩ : ∃ j, j = i + n := ⟨_, rfl⟩
    have HN := Lib.hid (show ∀ w, Calls Tryz.prog 23 #[.string s, .int .i64 (i : Int)] w fun e w' => e = .returned (.int .i64 (j : Int)) ∧ w = w' by
      intro w; have := hN w; rw [show sgE i n = (j : Int) by rw [hj]; exact if_neg h0] at this; exact this)
    have k1 := lx_slice s (i : Int) (j : Int) i j rfl rfl (by omega) (by omega)
    obtain ⟨X, hX⟩ : ∃ X, X = s.extract i j := ⟨_, rfl⟩
    rw [← hX] at k1
    rw [hj, cut_ext] at hX
    have HJ := Lib.hid hj
    have HXX := Lib.hid hX
    have g0 : ¬ (j : Int) < 0 := by omega
    clear hD hL hN hn hd hl h3 h4 h0 hX hj
    rw [HO.out]
    go_enter Tryz.func12, Tryz.ntmps12
    go_wp2_with (first | (go_at_call 16; ((with_reducible refine (HD.out _).mono ?_); rintro e w' ⟨rfl, rfl⟩)) | (go_at_call 15; ((with_reducible refine (HL.out _).mono ?_); rintro e w' ⟨rfl, rfl⟩)) | (go_at_call 23; ((with_reducible refine (HN.out _).mono ?_); rintro e w' ⟨rfl, rfl⟩)))
    go_region
    all_goals
      go_wp2
      go_returns
      exact ⟨oneR_good 0 rfl (by rw [HXX.out]; simp only [tkC, hi_nought]; rfl) (by rw [HJ.out]) rfl, by (repeat' (first | (with_reducible exact Below.refl _ _) | (with_reducible assumption) | (with_reducible refine Below.alloc ?_ ?_ _) | (with_reducible refine below_drewN ?_ _) | (with_reducible refine below_drew ?_) | (with_reducible refine below_ext ?_ ?_ _ _) | (with_reducible refine Below.setCell ?_ ?_ _) | (simp; done) | (simp; omega) | omega))⟩
theorem rone_any {F : Lx.Fn} (hF : FOK F) (s : ByteArray) (hs : s.size ≤ 1000) (i : Nat) (hlt : i < s.size) (w : World) :
    Calls Tryz.prog 12 #[.string s, .int .i64 (i : Int)] w fun e w' => OneR i (Lx.one F (s.data.toList.drop i)) e ∧ Below w.heap.size w w' := by
  have hzz : i < s.data.toList.length := hlt
  cases h1 : Lx.dg s[i] with
  | true => rw [Lx.one_num hzz h1]; exact rone_num hF s hs i hlt h1 w
  | false =>
    cases h2 : Lx.lt s[i] with
    | true => rw [Lx.one_word hzz h1 h2]; exact rone_word hF s hs i hlt h1 h2 w
    | false =>
      by_cases h3 : s[i] = 64
      · rw [Lx.one_date hzz h3]; exact rone_date hF s hs i hlt h3 w
      · by_cases h4 : s[i] = 34
        · rw [Lx.one_str hzz h4]; exact rone_str hF s hs i hlt h4 w
        · rw [Lx.one_sign hzz h1 h2 h3 h4]; exact rone_sign s hs i hlt h1 h2 h3 h4 w
end Go.Proofs.YtonajmngchfjeaaGreatDoor
