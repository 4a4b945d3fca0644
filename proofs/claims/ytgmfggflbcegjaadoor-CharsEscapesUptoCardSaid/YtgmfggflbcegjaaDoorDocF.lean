/-
  The document's numbers and names of references.
-/
import Derived.Test.YtgmfggflbcegjaaDoorDocE
import Derived.Test.YtgmfggflbcegjaaDoorMove
import Derived.Test.YtgmfggflbcegjaaDoorQuote
import Derived.Test.YtgmfggflbcegjaaDoorCuts
import Derived.Lib.SmallJoins
namespace Go.Proofs.YtgmfggflbcegjaaDoor
open Go.RowKit Txt
attribute [local go_sem] setCell_drewN cell?_ext frozen?_ext shape?_ext setCell_ext lt_1' ne_1' en_1' le_1' lt_2' ne_2' en_2' le_2' lt_3' ne_3' en_3' le_3' lt_4' ne_4' en_4' le_4' lt_5' ne_5' en_5' le_5' lt_6' ne_6' en_6' le_6' lt_7' ne_7' en_7' le_7' lt_8' ne_8' en_8' le_8' lt_9' ne_9' en_9' le_9' lt_10' ne_10' en_10' le_10' lt_11' ne_11' en_11' le_11' lt_12' ne_12' en_12' le_12'

def numV (X : Option Int) (e : Bool) : Value := match X with
  | none => .tuple #[.int .i64 0, .bool false]
  | some n => .tuple #[.int .i64 n, .bool (!e && okI n)]
theorem dgtN_bounds (x : Nat) : -1 ≤ dgtN x ∧ dgtN x ≤ 15 := by
  have := dgt_nonneg x
  have := dgt_le x
  unfold dgtN; split <;> omega
theorem dnum_nonneg (base : Int) (hb : 0 ≤ base) : ∀ (l : List UInt8) (code n : Int), 0 ≤ code → dnum base code l = some n → 0 ≤ n
  | [], code, n, h, e => by cases e; exact h
  | c :: r, code, n, h, e => by
    unfold dnum at e
    split at e
    · cases e
    · rename_i hd
      refine dnum_nonneg base hb r _ n ?_ e
      have := Int.mul_nonneg h hb
      omega
theorem isEmpty_yes {s : ByteArray} (h : s.size = 0) : s.toList.isEmpty = true := by
  rw [ByteArray.toList_eq, List.eq_nil_of_length_eq_zero (show s.data.toList.length = 0 from h)]; rfl
theorem isEmpty_no {s : ByteArray} (h : ¬ s.size = 0) : s.toList.isEmpty = false := by
  rw [ByteArray.toList_eq]
  cases hl : s.data.toList with
  | nil => exact absurd (show s.data.toList.length = 0 by rw [hl]; rfl) h
  | cons => rfl
set_option maxRecDepth 100000 in
set_option maxHeartbeats 8000000 in
theorem rnumber_any (s : ByteArray) (hs : s.size ≤ 1048576) (base : Int) (hbase : base = 10 ∨ base = 16) (X : Option Int) (hX : X = dnum base 0 s.data.toList) (w : World) :
    Calls Tryd.prog 70 #[.string s, .int .i64 base] w fun e w' => e = .returned (numV X (decide (s.size = 0))) ∧ w = w' := by
  have HX := Lib.hid hX
  clear hX
  rcases hbase with rfl | rfl
  · go_enter Tryd.func70, Tryd.ntmps70
    go_wp2
    go_loopw [6, 7] (fun v i wr => ∃ (k : Nat) (n : Int), v = .int .i64 n ∧ 0 ≤ n ∧ n ≤ 1114112 ∧ k ≤ s.size ∧ i = .int .i64 k ∧ Hid (X = dnum 10 n (s.data.toList.drop k)) ∧ wr = w) (fun _ i _ => s.size - (intOf i).toNat)
    case atStart => exact ⟨0, 0, rfl, by decide, by decide, Nat.zero_le _, rfl, Lib.hid (by rw [List.drop_zero]; exact HX.out), rfl⟩
    case round =>
      obtain ⟨k, n, rfl, hn0, hn1, hk, rfl, HX2, rfl⟩ := hrel
      by_cases hlt : k < s.size
      · have hlti : (k : Int) < s.size := by omega
        have HS0 := fun w => digit16_any s[k].toNat s[k].toNat_lt w
        have hbd := dgtN_bounds s[k].toNat
        have hX3 := HX2.out
        rw [drop_at s k hlt, dnum] at hX3
        obtain ⟨z, hz⟩ : ∃ z, z = dgtN s[k].toNat := ⟨_, rfl⟩
        rw [← hz] at hX3 hbd HS0
        have HS := Lib.hid HS0
        obtain ⟨hb1, hb2⟩ := hbd
        clear hz HS0 HX HX2
        by_cases hneg : z < 0
        · rw [if_pos (.inl hneg)] at hX3
          have HN := Lib.hid hX3
          clear hX3
          go_wp2_with (go_at_call 99; ((with_reducible refine (HS.out _).mono ?_); rintro e w' ⟨rfl, rfl⟩))
          go_ret2
          exact ⟨by rw [HN.out]; rfl, rfl⟩
        by_cases hbig : 10 ≤ z
        · rw [if_pos (.inr hbig)] at hX3
          have HN := Lib.hid hX3
          clear hX3
          go_wp2_with (go_at_call 99; ((with_reducible refine (HS.out _).mono ?_); rintro e w' ⟨rfl, rfl⟩))
          go_ret2
          exact ⟨by rw [HN.out]; rfl, rfl⟩
        rw [if_neg (by omega)] at hX3
        have HN := Lib.hid hX3
        clear hX3
        go_wp2_with (go_at_call 99; ((with_reducible refine (HS.out _).mono ?_); rintro e w' ⟨rfl, rfl⟩))
        go_roundw
        case rel => exact ⟨k + 1, _, rfl, by omega, by omega, by omega, by go_num, HN, trivial⟩
        case measure => simp [intOf]; omega
      · obtain rfl : k = s.size := by omega
        have hX3 := HX2.out
        rw [drop_end] at hX3
        have HN := Lib.hid hX3
        have HC := Lib.hid (fun w => char_any n w)
        clear hX3 HX2 HX
        by_cases h0 : s.size = 0
        · have he : s.toList.isEmpty = true := isEmpty_yes h0
          have HD := Lib.hid (show decide (s.size = 0) = true by simpa using h0)
          clear h0
          go_wp2_with (go_at_call 88; ((with_reducible refine (HC.out _).mono ?_); rintro e w' ⟨rfl, rfl⟩))
          go_ret2
          exact ⟨by rw [HN.out, HD.out]; rfl, rfl⟩
        · have he : s.toList.isEmpty = false := isEmpty_no h0
          have HD := Lib.hid (show decide (s.size = 0) = false by simpa using h0)
          clear h0
          go_wp2_with (go_at_call 88; ((with_reducible refine (HC.out _).mono ?_); rintro e w' ⟨rfl, rfl⟩))
          go_ret2
          exact ⟨by rw [HN.out, HD.out]; rfl, rfl⟩
  · go_enter Tryd.func70, Tryd.ntmps70
    go_wp2
    go_loopw [6, 7] (fun v i wr => ∃ (k : Nat) (n : Int), v = .int .i64 n ∧ 0 ≤ n ∧ n ≤ 1114112 ∧ k ≤ s.size ∧ i = .int .i64 k ∧ Hid (X = dnum 16 n (s.data.toList.drop k)) ∧ wr = w) (fun _ i _ => s.size - (intOf i).toNat)
    case atStart => exact ⟨0, 0, rfl, by decide, by decide, Nat.zero_le _, rfl, Lib.hid (by rw [List.drop_zero]; exact HX.out), rfl⟩
    case round =>
      obtain ⟨k, n, rfl, hn0, hn1, hk, rfl, HX2, rfl⟩ := hrel
      by_cases hlt : k < s.size
      · have hlti : (k : Int) < s.size := by omega
        have HS0 := fun w => digit16_any s[k].toNat s[k].toNat_lt w
        have hbd := dgtN_bounds s[k].toNat
        have hX3 := HX2.out
        rw [drop_at s k hlt, dnum] at hX3
        obtain ⟨z, hz⟩ : ∃ z, z = dgtN s[k].toNat := ⟨_, rfl⟩
        rw [← hz] at hX3 hbd HS0
        have HS := Lib.hid HS0
        obtain ⟨hb1, hb2⟩ := hbd
        clear hz HS0 HX HX2
        by_cases hneg : z < 0
        · rw [if_pos (.inl hneg)] at hX3
          have HN := Lib.hid hX3
          clear hX3
          go_wp2_with (go_at_call 99; ((with_reducible refine (HS.out _).mono ?_); rintro e w' ⟨rfl, rfl⟩))
          go_ret2
          exact ⟨by rw [HN.out]; rfl, rfl⟩
        by_cases hbig : 16 ≤ z
        · rw [if_pos (.inr hbig)] at hX3
          have HN := Lib.hid hX3
          clear hX3
          go_wp2_with (go_at_call 99; ((with_reducible refine (HS.out _).mono ?_); rintro e w' ⟨rfl, rfl⟩))
          go_ret2
          exact ⟨by rw [HN.out]; rfl, rfl⟩
        rw [if_neg (by omega)] at hX3
        have HN := Lib.hid hX3
        clear hX3
        go_wp2_with (go_at_call 99; ((with_reducible refine (HS.out _).mono ?_); rintro e w' ⟨rfl, rfl⟩))
        go_roundw
        case rel => exact ⟨k + 1, _, rfl, by omega, by omega, by omega, by go_num, HN, trivial⟩
        case measure => simp [intOf]; omega
      · obtain rfl : k = s.size := by omega
        have hX3 := HX2.out
        rw [drop_end] at hX3
        have HN := Lib.hid hX3
        have HC := Lib.hid (fun w => char_any n w)
        clear hX3 HX2 HX
        by_cases h0 : s.size = 0
        · have he : s.toList.isEmpty = true := isEmpty_yes h0
          have HD := Lib.hid (show decide (s.size = 0) = true by simpa using h0)
          clear h0
          go_wp2_with (go_at_call 88; ((with_reducible refine (HC.out _).mono ?_); rintro e w' ⟨rfl, rfl⟩))
          go_ret2
          exact ⟨by rw [HN.out, HD.out]; rfl, rfl⟩
        · have he : s.toList.isEmpty = false := isEmpty_no h0
          have HD := Lib.hid (show decide (s.size = 0) = false by simpa using h0)
          clear h0
          go_wp2_with (go_at_call 88; ((with_reducible refine (HC.out _).mono ?_); rintro e w' ⟨rfl, rfl⟩))
          go_ret2
          exact ⟨by rw [HN.out, HD.out]; rfl, rfl⟩
theorem src_const (w : World) (c : UInt8) (z : Int) (hz : z = (c.toNat : Int)) (fr : Nat × Nat) : Src (w.alloc (.cells #[.int .u8 z] 5 fr)) (.slice (some ⟨w.heap.size, 0, none⟩) 1 1) [c] := by
  subst hz
  refine ⟨_, _, rfl, fun j hj => ?_⟩
  obtain rfl : j = 0 := by simp at hj; exact hj
  exact World.cell?_alloc_mark w _ _ _ 0
/-- a reference's body that is found or not -/
def namV (v : Value) (Y : Option (List UInt8)) : Value := match Y with
  | none => .tuple #[.slice none 0 0, .bool false]
  | some _ => .tuple #[v, .bool true]
def NamW (w w' : World) (v : Value) (Y : Option (List UInt8)) : Prop := Below w.heap.size w w' ∧ ∀ l, Y = some l → Src w' v l
/-- what stands for a number of a reference with these digits -/
def chX : Option Int → List UInt8 → Option (List UInt8)
  | none, _ => none
  | some n, l => if okI n = true ∧ ¬ l = [] then some (Lib.encodeRune n) else none
theorem dchr_chX (base : Int) (l : List UInt8) : dchr base l = chX (dnum base 0 l) l := by
  unfold dchr
  cases dnum base 0 l <;> rfl
/-- what stands for a body that is no name -/
def dnO : List UInt8 → Option (List UInt8)
  | [] => none
  | c :: r => if c = 35 then (if r.head? = some 120 then dchr 16 (r.drop 1) else dchr 10 r) else none
theorem dnam_other (b : List UInt8) (h : ∀ k ∈ ([[108, 116], [103, 116], [97, 109, 112], [113, 117, 111, 116], [97, 112, 111, 115]] : List (List UInt8)), ¬ b = k) : dnam b = dnO b := by
  unfold dnam
  rw [if_neg (h _ (by simp)), if_neg (h _ (by simp)), if_neg (h _ (by simp)), if_neg (h _ (by simp)), if_neg (h _ (by simp))]
  cases b <;> rfl
theorem lits_split (s : ByteArray) : (s = mkb [108, 116] ∨ s = mkb [103, 116] ∨ s = mkb [97, 109, 112] ∨ s = mkb [113, 117, 111, 116] ∨ s = mkb [97, 112, 111, 115]) ∨ ∀ k ∈ ([[108, 116], [103, 116], [97, 109, 112], [113, 117, 111, 116], [97, 112, 111, 115]] : List (List UInt8)), ¬ s.data.toList = k := by
  by_cases h : s.data.toList ∈ ([[108, 116], [103, 116], [97, 109, 112], [113, 117, 111, 116], [97, 112, 111, 115]] : List (List UInt8))
  · have e : s = mkb s.data.toList := rfl
    refine .inl ?_
    simp only [List.mem_cons, List.not_mem_nil, or_false] at h
    rcases h with h | h | h | h | h
    · exact .inl (by rw [e, h])
    · exact .inr (.inl (by rw [e, h]))
    · exact .inr (.inr (.inl (by rw [e, h])))
    · exact .inr (.inr (.inr (.inl (by rw [e, h]))))
    · exact .inr (.inr (.inr (.inr (by rw [e, h]))))
  · exact .inr fun k hk e => h (e ▸ hk)
set_option maxRecDepth 100000 in
set_option maxHeartbeats 8000000 in
theorem rnamed_lit (c : UInt8) (z : Int) (hz : z = (c.toNat : Int)) (l : List UInt8) (h : (l = [108, 116] ∧ z = 60) ∨ (l = [103, 116] ∧ z = 62) ∨ (l = [97, 109, 112] ∧ z = 38) ∨ (l = [113, 117, 111, 116] ∧ z = 34) ∨ (l = [97, 112, 111, 115] ∧ z = 39)) (w : World) :
    Calls Tryd.prog 39 #[.string (mkb l)] w fun e w' => ∃ v, e = .returned (.tuple #[v, .bool true]) ∧ Src w' v [c] ∧ Below w.heap.size w w' := by
  have kc := Go.Joins.run_convert_bytes_const_at (P := Tryd.prog) w 57 5 #[.int .u8 z] 1 1 _ rfl Tryd.underlying57 Tryd.underlying5
  have hsrc := Lib.hid (src_const w c z hz)
  have hbel : Hid (∀ fr, Below w.heap.size w (w.alloc (.cells #[.int .u8 z] 5 fr))) := Lib.hid (fun fr => by (repeat' (first | (with_reducible exact Below.refl _ _) | (with_reducible assumption) | (with_reducible refine Below.alloc ?_ ?_ _) | (with_reducible refine below_drewN ?_ _) | (with_reducible refine below_drew ?_) | (with_reducible refine below_ext ?_ ?_ _ _) | (with_reducible refine Below.setCell ?_ ?_ _) | (simp; done) | (simp; omega) | omega)))
  clear hz
  rcases h with ⟨rfl, rfl⟩ | ⟨rfl, rfl⟩ | ⟨rfl, rfl⟩ | ⟨rfl, rfl⟩ | ⟨rfl, rfl⟩
  all_goals
    go_enter Tryd.func39, Tryd.ntmps39
    go_wp2
    go_ret2
    exact ⟨_, rfl, hsrc.out _, hbel.out _⟩
set_option maxRecDepth 100000 in
set_option maxHeartbeats 16000000 in
theorem rnamed_other (s : ByteArray) (hs : s.size ≤ 1048576) (h : ∀ k ∈ ([[108, 116], [103, 116], [97, 109, 112], [113, 117, 111, 116], [97, 112, 111, 115]] : List (List UInt8)), ¬ s.data.toList = k) (Y : Option (List UInt8)) (hY0 : Y = dnam s.data.toList) (w : World) :
    Calls Tryd.prog 39 #[.string s] w fun e w' => ∃ v, e = .returned (namV v Y) ∧ NamW w w' v Y := by
  have e0 : (s.toList == [108, 116]) = false := by rw [ByteArray.toList_eq]; simpa using h [108, 116] (by simp)
  have e1 : (s.toList == [103, 116]) = false := by rw [ByteArray.toList_eq]; simpa using h [103, 116] (by simp)
  have e2 : (s.toList == [97, 109, 112]) = false := by rw [ByteArray.toList_eq]; simpa using h [97, 109, 112] (by simp)
  have e3 : (s.toList == [113, 117, 111, 116]) = false := by rw [ByteArray.toList_eq]; simpa using h [113, 117, 111, 116] (by simp)
  have e4 : (s.toList == [97, 112, 111, 115]) = false := by rw [ByteArray.toList_eq]; simpa using h [97, 112, 111, 115] (by simp)
  rw [dnam_other _ h] at hY0
  clear h
  by_cases h0 : s.size = 0
  · have h0i : (s.size : Int) = 0 := by omega
    have hd : s.data.toList = [] := List.eq_nil_of_length_eq_zero (by rw [← Lib.size_eq]; exact h0)
    rw [hd] at hY0
    have HY := Lib.hid hY0
    have hY := hY0
    clear hY0 hd h0
    clear hY
    go_enter Tryd.func39, Tryd.ntmps39
    go_wp2
    go_ret2
    exact ⟨.slice none 0 0, by rw [HY.out]; rfl, by (repeat' (first | (with_reducible exact Below.refl _ _) | (with_reducible assumption) | (with_reducible refine Below.alloc ?_ ?_ _) | (with_reducible refine below_drewN ?_ _) | (with_reducible refine below_drew ?_) | (with_reducible refine below_ext ?_ ?_ _ _) | (with_reducible refine Below.setCell ?_ ?_ _) | (simp; done) | (simp; omega) | omega)), fun l hl => by rw [HY.out] at hl; cases hl⟩
  have h1 : 0 < s.size := by omega
  have hd : s.data.toList = s[0] :: s.data.toList.drop 1 := by have := drop_at s 0 h1; rwa [List.drop_zero] at this
  have h1i : (0 : Int) < s.size := by omega
  rw [hd] at hY0
  simp only [dnO] at hY0
  by_cases h35 : s[0] = 35
  · have e35 : ((s[0].toNat : Nat) : Int) = 35 := by rw [h35]; rfl
    rw [if_pos h35] at hY0
    by_cases h2 : 1 < s.size
    · have h2i : (1 : Int) < s.size := by omega
      have hd1 : s.data.toList.drop 1 = s[1] :: s.data.toList.drop 2 := drop_at s 1 h2
      by_cases h120 : s[1] = 120
      · have e120 : ((s[1].toNat : Nat) : Int) = 120 := by rw [h120]; rfl
        rw [hd1, h120] at hY0
        have hY : Y = dchr 16 (s.data.toList.drop 2) := hY0
        clear hY0 hd hd1 h35 h120
        have ksl : ∀ w, (Instr.slice 9 (.string s) (some (.int .i64 2)) none none).run Tryd.prog w = .ok (.string (s.extract 2 s.size)) w := slice_from s 2 (by omega)
        obtain ⟨x, hx⟩ : ∃ x, x = s.extract 2 s.size := ⟨_, rfl⟩
        have hxd : x.data.toList = s.data.toList.drop 2 := by rw [hx, ext_data, List.take_of_length_le (by simp)]
        have hxs : x.size ≤ 1048576 := by rw [hx]; simp; omega
        rw [← hx] at ksl
        obtain ⟨X, hX⟩ : ∃ X, X = dnum 16 0 x.data.toList := ⟨_, rfl⟩
        have hn := fun w => rnumber_any x hxs 16 (by decide) X hX w
        have hY2 : Y = chX X x.data.toList := by rw [hX, ← dchr_chX, hxd]; exact hY
        have hpos : ∀ n, X = some n → 0 ≤ n := fun n e => dnum_nonneg 16 (by decide) x.data.toList 0 n (by decide) (by rw [← hX]; exact e)
        cases X with
        | none =>
          simp only [numV] at hn
          have HN := Lib.hid hn
          have HY := Lib.hid hY2
          clear hn hY hY2 hX hx hxd hxs hpos
          go_enter Tryd.func39, Tryd.ntmps39
          go_wp2_with (go_at_call 70; ((with_reducible refine (HN.out _).mono ?_); rintro e w' ⟨rfl, rfl⟩))
          go_ret2
          exact ⟨.slice none 0 0, by rw [HY.out]; rfl, by (repeat' (first | (with_reducible exact Below.refl _ _) | (with_reducible assumption) | (with_reducible refine Below.alloc ?_ ?_ _) | (with_reducible refine below_drewN ?_ _) | (with_reducible refine below_drew ?_) | (with_reducible refine below_ext ?_ ?_ _ _) | (with_reducible refine Below.setCell ?_ ?_ _) | (simp; done) | (simp; omega) | omega)), fun l hl => by rw [HY.out] at hl; cases hl⟩
        | some n =>
          have hn0 := hpos n rfl
          obtain ⟨m, rfl⟩ : ∃ m : Nat, n = (m : Int) := ⟨n.toNat, by omega⟩
          by_cases hok : (!decide (x.size = 0) && okI (m : Int)) = true
          · have hok2 := hok
            simp only [Bool.and_eq_true, Bool.not_eq_true', decide_eq_false_iff_not] at hok2
            have hB := fun w => rbytes_any m hok2.2 w
            simp only [numV] at hn
            rw [hok] at hn
            have hY3 : Y = some (Lib.encodeRune (m : Int)) := by rw [hY2, chX, if_pos ⟨hok2.2, fun e => hok2.1 (by rw [Lib.size_eq, e]; rfl)⟩]
            obtain ⟨R, hR⟩ : ∃ R, R = Lib.encodeRune (m : Int) := ⟨_, rfl⟩
            rw [← hR] at hB hY3
            have HN := Lib.hid hn; have HB := Lib.hid hB; have HY := Lib.hid hY3
            clear hn hB hY hY2 hY3 hX hx hxd hxs hpos hok hok2 hR hn0
            go_enter Tryd.func39, Tryd.ntmps39
            go_wp2_with (first | (go_at_call 70; ((with_reducible refine (HN.out _).mono ?_); rintro e w' ⟨rfl, rfl⟩)) | (go_at_call 71; ((with_reducible refine (HB.out _).mono ?_); rintro e w1 ⟨v, rfl, hsrc, hb1⟩)))
            go_ret2
            exact ⟨v, by rw [HY.out]; rfl, hb1, fun l hl => by rw [HY.out] at hl; cases hl; exact hsrc⟩
          · simp only [numV] at hn
            rw [Bool.eq_false_iff.2 hok] at hn
            have hY3 : Y = none := by
              rw [hY2, chX, if_neg]
              rintro ⟨h1, h2⟩
              refine hok ?_
              rw [h1, Bool.and_true, Bool.not_eq_true', decide_eq_false_iff_not]
              exact fun e => h2 (List.eq_nil_of_length_eq_zero (by rw [← Lib.size_eq]; exact e))
            have HN := Lib.hid hn; have HY := Lib.hid hY3
            clear hn hY hY2 hY3 hX hx hxd hxs hpos hok hn0
            go_enter Tryd.func39, Tryd.ntmps39
            go_wp2_with (go_at_call 70; ((with_reducible refine (HN.out _).mono ?_); rintro e w' ⟨rfl, rfl⟩))
            go_ret2
            exact ⟨.slice none 0 0, by rw [HY.out]; rfl, by (repeat' (first | (with_reducible exact Below.refl _ _) | (with_reducible assumption) | (with_reducible refine Below.alloc ?_ ?_ _) | (with_reducible refine below_drewN ?_ _) | (with_reducible refine below_drew ?_) | (with_reducible refine below_ext ?_ ?_ _ _) | (with_reducible refine Below.setCell ?_ ?_ _) | (simp; done) | (simp; omega) | omega)), fun l hl => by rw [HY.out] at hl; cases hl⟩
      · have g120 : ((s[1].toNat : Int) == 120) = false := u8_ne h120
        rw [if_neg (by rw [hd1]; simpa using h120)] at hY0
        have hY : Y = dchr 10 (s.data.toList.drop 1) := hY0
        clear hY0 hd hd1 h35 h120
        have ksl : ∀ w, (Instr.slice 9 (.string s) (some (.int .i64 1)) none none).run Tryd.prog w = .ok (.string (s.extract 1 s.size)) w := slice_from s 1 (by omega)
        obtain ⟨x, hx⟩ : ∃ x, x = s.extract 1 s.size := ⟨_, rfl⟩
        have hxd : x.data.toList = s.data.toList.drop 1 := by rw [hx, ext_data, List.take_of_length_le (by simp)]
        have hxs : x.size ≤ 1048576 := by rw [hx]; simp; omega
        rw [← hx] at ksl
        obtain ⟨X, hX⟩ : ∃ X, X = dnum 10 0 x.data.toList := ⟨_, rfl⟩
        have hn := fun w => rnumber_any x hxs 10 (by decide) X hX w
        have hY2 : Y = chX X x.data.toList := by rw [hX, ← dchr_chX, hxd]; exact hY
        have hpos : ∀ n, X = some n → 0 ≤ n := fun n e => dnum_nonneg 10 (by decide) x.data.toList 0 n (by decide) (by rw [← hX]; exact e)
        cases X with
        | none =>
          simp only [numV] at hn
          have HN := Lib.hid hn
          have HY := Lib.hid hY2
          clear hn hY hY2 hX hx hxd hxs hpos
          go_enter Tryd.func39, Tryd.ntmps39
          go_wp2_with (go_at_call 70; ((with_reducible refine (HN.out _).mono ?_); rintro e w' ⟨rfl, rfl⟩))
          go_ret2
          exact ⟨.slice none 0 0, by rw [HY.out]; rfl, by (repeat' (first | (with_reducible exact Below.refl _ _) | (with_reducible assumption) | (with_reducible refine Below.alloc ?_ ?_ _) | (with_reducible refine below_drewN ?_ _) | (with_reducible refine below_drew ?_) | (with_reducible refine below_ext ?_ ?_ _ _) | (with_reducible refine Below.setCell ?_ ?_ _) | (simp; done) | (simp; omega) | omega)), fun l hl => by rw [HY.out] at hl; cases hl⟩
        | some n =>
          have hn0 := hpos n rfl
          obtain ⟨m, rfl⟩ : ∃ m : Nat, n = (m : Int) := ⟨n.toNat, by omega⟩
          by_cases hok : (!decide (x.size = 0) && okI (m : Int)) = true
          · have hok2 := hok
            simp only [Bool.and_eq_true, Bool.not_eq_true', decide_eq_false_iff_not] at hok2
            have hB := fun w => rbytes_any m hok2.2 w
            simp only [numV] at hn
            rw [hok] at hn
            have hY3 : Y = some (Lib.encodeRune (m : Int)) := by rw [hY2, chX, if_pos ⟨hok2.2, fun e => hok2.1 (by rw [Lib.size_eq, e]; rfl)⟩]
            obtain ⟨R, hR⟩ : ∃ R, R = Lib.encodeRune (m : Int) := ⟨_, rfl⟩
            rw [← hR] at hB hY3
            have HN := Lib.hid hn; have HB := Lib.hid hB; have HY := Lib.hid hY3
            clear hn hB hY hY2 hY3 hX hx hxd hxs hpos hok hok2 hR hn0
            go_enter Tryd.func39, Tryd.ntmps39
            go_wp2_with (first | (go_at_call 70; ((with_reducible refine (HN.out _).mono ?_); rintro e w' ⟨rfl, rfl⟩)) | (go_at_call 71; ((with_reducible refine (HB.out _).mono ?_); rintro e w1 ⟨v, rfl, hsrc, hb1⟩)))
            go_ret2
            exact ⟨v, by rw [HY.out]; rfl, hb1, fun l hl => by rw [HY.out] at hl; cases hl; exact hsrc⟩
          · simp only [numV] at hn
            rw [Bool.eq_false_iff.2 hok] at hn
            have hY3 : Y = none := by
              rw [hY2, chX, if_neg]
              rintro ⟨h1, h2⟩
              refine hok ?_
              rw [h1, Bool.and_true, Bool.not_eq_true', decide_eq_false_iff_not]
              exact fun e => h2 (List.eq_nil_of_length_eq_zero (by rw [← Lib.size_eq]; exact e))
            have HN := Lib.hid hn; have HY := Lib.hid hY3
            clear hn hY hY2 hY3 hX hx hxd hxs hpos hok hn0
            go_enter Tryd.func39, Tryd.ntmps39
            go_wp2_with (go_at_call 70; ((with_reducible refine (HN.out _).mono ?_); rintro e w' ⟨rfl, rfl⟩))
            go_ret2
            exact ⟨.slice none 0 0, by rw [HY.out]; rfl, by (repeat' (first | (with_reducible exact Below.refl _ _) | (with_reducible assumption) | (with_reducible refine Below.alloc ?_ ?_ _) | (with_reducible refine below_drewN ?_ _) | (with_reducible refine below_drew ?_) | (with_reducible refine below_ext ?_ ?_ _ _) | (with_reducible refine Below.setCell ?_ ?_ _) | (simp; done) | (simp; omega) | omega)), fun l hl => by rw [HY.out] at hl; cases hl⟩
    · have h2i : (s.size : Int) ≤ 1 := by omega
      rw [if_neg (by rw [(drop_nil s 1).2 (by omega)]; simp)] at hY0
      have hY : Y = dchr 10 (s.data.toList.drop 1) := hY0
      clear hY0 hd h35
      have ksl : ∀ w, (Instr.slice 9 (.string s) (some (.int .i64 1)) none none).run Tryd.prog w = .ok (.string (s.extract 1 s.size)) w := slice_from s 1 (by omega)
      obtain ⟨x, hx⟩ : ∃ x, x = s.extract 1 s.size := ⟨_, rfl⟩
      have hxd : x.data.toList = s.data.toList.drop 1 := by rw [hx, ext_data, List.take_of_length_le (by simp)]
      have hxs : x.size ≤ 1048576 := by rw [hx]; simp; omega
      rw [← hx] at ksl
      obtain ⟨X, hX⟩ : ∃ X, X = dnum 10 0 x.data.toList := ⟨_, rfl⟩
      have hn := fun w => rnumber_any x hxs 10 (by decide) X hX w
      have hY2 : Y = chX X x.data.toList := by rw [hX, ← dchr_chX, hxd]; exact hY
      have hpos : ∀ n, X = some n → 0 ≤ n := fun n e => dnum_nonneg 10 (by decide) x.data.toList 0 n (by decide) (by rw [← hX]; exact e)
      cases X with
      | none =>
        simp only [numV] at hn
        have HN := Lib.hid hn
        have HY := Lib.hid hY2
        clear hn hY hY2 hX hx hxd hxs hpos
        go_enter Tryd.func39, Tryd.ntmps39
        go_wp2_with (go_at_call 70; ((with_reducible refine (HN.out _).mono ?_); rintro e w' ⟨rfl, rfl⟩))
        go_ret2
        exact ⟨.slice none 0 0, by rw [HY.out]; rfl, by (repeat' (first | (with_reducible exact Below.refl _ _) | (with_reducible assumption) | (with_reducible refine Below.alloc ?_ ?_ _) | (with_reducible refine below_drewN ?_ _) | (with_reducible refine below_drew ?_) | (with_reducible refine below_ext ?_ ?_ _ _) | (with_reducible refine Below.setCell ?_ ?_ _) | (simp; done) | (simp; omega) | omega)), fun l hl => by rw [HY.out] at hl; cases hl⟩
      | some n =>
        have hn0 := hpos n rfl
        obtain ⟨m, rfl⟩ : ∃ m : Nat, n = (m : Int) := ⟨n.toNat, by omega⟩
        by_cases hok : (!decide (x.size = 0) && okI (m : Int)) = true
        · have hok2 := hok
          simp only [Bool.and_eq_true, Bool.not_eq_true', decide_eq_false_iff_not] at hok2
          have hB := fun w => rbytes_any m hok2.2 w
          simp only [numV] at hn
          rw [hok] at hn
          have hY3 : Y = some (Lib.encodeRune (m : Int)) := by rw [hY2, chX, if_pos ⟨hok2.2, fun e => hok2.1 (by rw [Lib.size_eq, e]; rfl)⟩]
          obtain ⟨R, hR⟩ : ∃ R, R = Lib.encodeRune (m : Int) := ⟨_, rfl⟩
          rw [← hR] at hB hY3
          have HN := Lib.hid hn; have HB := Lib.hid hB; have HY := Lib.hid hY3
          clear hn hB hY hY2 hY3 hX hx hxd hxs hpos hok hok2 hR hn0
          go_enter Tryd.func39, Tryd.ntmps39
          go_wp2_with (first | (go_at_call 70; ((with_reducible refine (HN.out _).mono ?_); rintro e w' ⟨rfl, rfl⟩)) | (go_at_call 71; ((with_reducible refine (HB.out _).mono ?_); rintro e w1 ⟨v, rfl, hsrc, hb1⟩)))
          go_ret2
          exact ⟨v, by rw [HY.out]; rfl, hb1, fun l hl => by rw [HY.out] at hl; cases hl; exact hsrc⟩
        · simp only [numV] at hn
          rw [Bool.eq_false_iff.2 hok] at hn
          have hY3 : Y = none := by
            rw [hY2, chX, if_neg]
            rintro ⟨h1, h2⟩
            refine hok ?_
            rw [h1, Bool.and_true, Bool.not_eq_true', decide_eq_false_iff_not]
            exact fun e => h2 (List.eq_nil_of_length_eq_zero (by rw [← Lib.size_eq]; exact e))
          have HN := Lib.hid hn; have HY := Lib.hid hY3
          clear hn hY hY2 hY3 hX hx hxd hxs hpos hok hn0
          go_enter Tryd.func39, Tryd.ntmps39
          go_wp2_with (go_at_call 70; ((with_reducible refine (HN.out _).mono ?_); rintro e w' ⟨rfl, rfl⟩))
          go_ret2
          exact ⟨.slice none 0 0, by rw [HY.out]; rfl, by (repeat' (first | (with_reducible exact Below.refl _ _) | (with_reducible assumption) | (with_reducible refine Below.alloc ?_ ?_ _) | (with_reducible refine below_drewN ?_ _) | (with_reducible refine below_drew ?_) | (with_reducible refine below_ext ?_ ?_ _ _) | (with_reducible refine Below.setCell ?_ ?_ _) | (simp; done) | (simp; omega) | omega)), fun l hl => by rw [HY.out] at hl; cases hl⟩
  · have g35 : ((s[0].toNat : Int) == 35) = false := u8_ne h35
    rw [if_neg h35] at hY0
    have HY := Lib.hid hY0
    have hY := hY0
    clear hY0 hd h35
    by_cases h2 : 1 < s.size
    · have h2i : (1 : Int) < s.size := by omega
      clear hY
      go_enter Tryd.func39, Tryd.ntmps39
      go_wp2
      go_ret2
      exact ⟨.slice none 0 0, by rw [HY.out]; rfl, by (repeat' (first | (with_reducible exact Below.refl _ _) | (with_reducible assumption) | (with_reducible refine Below.alloc ?_ ?_ _) | (with_reducible refine below_drewN ?_ _) | (with_reducible refine below_drew ?_) | (with_reducible refine below_ext ?_ ?_ _ _) | (with_reducible refine Below.setCell ?_ ?_ _) | (simp; done) | (simp; omega) | omega)), fun l hl => by rw [HY.out] at hl; cases hl⟩
    · have h2i : (s.size : Int) ≤ 1 := by omega
      clear hY
      go_enter Tryd.func39, Tryd.ntmps39
      go_wp2
      go_ret2
      exact ⟨.slice none 0 0, by rw [HY.out]; rfl, by (repeat' (first | (with_reducible exact Below.refl _ _) | (with_reducible assumption) | (with_reducible refine Below.alloc ?_ ?_ _) | (with_reducible refine below_drewN ?_ _) | (with_reducible refine below_drew ?_) | (with_reducible refine below_ext ?_ ?_ _ _) | (with_reducible refine Below.setCell ?_ ?_ _) | (simp; done) | (simp; omega) | omega)), fun l hl => by rw [HY.out] at hl; cases hl⟩
theorem rnamed_any (s : ByteArray) (hs : s.size ≤ 1048576) (w : World) :
    Calls Tryd.prog 39 #[.string s] w fun e w' => ∃ v, e = .returned (namV v (dnam s.data.toList)) ∧ NamW w w' v (dnam s.data.toList) := by
  rcases lits_split s with hl | hl
  · have key : ∀ (c : UInt8) (l : List UInt8), ((l = [108, 116] ∧ (c.toNat : Int) = 60) ∨ (l = [103, 116] ∧ (c.toNat : Int) = 62) ∨ (l = [97, 109, 112] ∧ (c.toNat : Int) = 38) ∨ (l = [113, 117, 111, 116] ∧ (c.toNat : Int) = 34) ∨ (l = [97, 112, 111, 115] ∧ (c.toNat : Int) = 39)) → dnam l = some [c] → s = mkb l →
        Calls Tryd.prog 39 #[.string s] w fun e w' => ∃ v, e = .returned (namV v (dnam s.data.toList)) ∧ NamW w w' v (dnam s.data.toList) := by
      rintro c l h1 h2 rfl
      refine (rnamed_lit c _ rfl l h1 w).mono fun e w' ⟨v, he, hs, hb⟩ => ?_
      have e2 : dnam (mkb l).data.toList = some [c] := h2
      rw [e2]
      exact ⟨v, he, hb, fun l2 h => by cases h; exact hs⟩
    rcases hl with hl | hl | hl | hl | hl
    · exact key 60 _ (.inl ⟨rfl, rfl⟩) rfl hl
    · exact key 62 _ (.inr (.inl ⟨rfl, rfl⟩)) rfl hl
    · exact key 38 _ (.inr (.inr (.inl ⟨rfl, rfl⟩))) rfl hl
    · exact key 34 _ (.inr (.inr (.inr (.inl ⟨rfl, rfl⟩)))) rfl hl
    · exact key 39 _ (.inr (.inr (.inr (.inr ⟨rfl, rfl⟩)))) rfl hl
  · exact rnamed_other s hs hl _ rfl w
end Go.Proofs.YtgmfggflbcegjaaDoor
