/-
  Contracts of chars.Escape, Name and Word, and the statements' own first question of package chars.
-/
import Derived.Test.YtgmfggflbcegjaaDoorValid
import Derived.Lib.BufSteps
import Derived.Lib.UnsafeStr
import Derived.Laws.BytesArg
import Derived.Laws.IdiomStrings
import Derived.OwnWalk
namespace Go.Proofs.YtgmfggflbcegjaaDoor
open Go.RowKit Txt
attribute [local go_sem] setCell_drewN cell?_ext frozen?_ext shape?_ext setCell_ext lt_1' ne_1' en_1' le_1' lt_2' ne_2' en_2' le_2' lt_3' ne_3' en_3' le_3' lt_4' ne_4' en_4' le_4' lt_5' ne_5' en_5' le_5' lt_6' ne_6' en_6' le_6' lt_7' ne_7' en_7' le_7' lt_8' ne_8' en_8' le_8' lt_9' ne_9' en_9' le_9' lt_10' ne_10' en_10' le_10' lt_11' ne_11' en_11' le_11' lt_12' ne_12' en_12' le_12'

/-- a text out of its bytes -/
abbrev mkb (l : List UInt8) : ByteArray := ⟨l.toArray⟩
theorem str_tuple {a b : ByteArray} {v : Value} (h : a = b) : Ending.returned (.tuple #[.string a, v]) = .returned (.tuple #[.string b, v]) := by rw [h]
theorem take_snoc (s : ByteArray) (k : Nat) (h : k < s.size) : s.data.toList.take (k + 1) = s.data.toList.take k ++ [s[k]] := by
  rw [List.take_succ_eq_append_getElem (by simpa using h)]; rfl
theorem infoByte : (Tryd.prog.info? 5).map (fun i => (i.zero, i.size, i.bytes)) = some (some (.int .u8 0), 1, 1) := by kernel_rfl
/-- the slice v holds the bytes l in a row of the call's own -/
abbrev Buf (B : Nat) (v : Value) (l : List UInt8) (W0 w : World) : Prop := Lib.OwnBuf B 5 v l.length (Lib.byteCells l) W0 w
theorem Buf.nil (W0 : World) {w : World} (hb : Below W0.heap.size W0 w) : Buf W0.heap.size (.slice none 0 0) [] W0 w :=
  ⟨World.ownsRowF_of (World.ownsRow_nil _ _ _ _), hb, hb.size⟩
theorem Buf.congr {B : Nat} {v : Value} {m : List UInt8} {W0 w : World} {n : Nat} {xs : List Value} (h : Lib.OwnBuf B 5 v n xs W0 w) (hn : n = m.length) (hx : xs = Lib.byteCells m) : Buf B v m W0 w := by
  subst hn hx; exact h
theorem bytes_snoc (l : List UInt8) (c : UInt8) : Lib.byteCells l ++ [.int .u8 (c.toNat : Int)] = Lib.byteCells (l ++ [c]) := by simp [Lib.byteCells]
theorem bytes_app (l m : List UInt8) : Lib.byteCells l ++ Lib.strCells (mkb m) = Lib.byteCells (l ++ m) := by simp [Lib.byteCells, Lib.strCells]
theorem Buf.conv {B : Nat} {v : Value} {l : List UInt8} {W0 w : World} (h : Buf B v l W0 w) : (convert 57 9 v).run Tryd.prog w = .ok (.string (mkb l)) w := by
  have hh := h
  obtain ⟨⟨hlen, hv⟩, _, _⟩ := hh
  rcases hv with ⟨rfl, h0⟩ | ⟨g, cap, cur, fz, rfl, _⟩
  · have : l = [] := List.eq_nil_of_length_eq_zero h0
    subst this
    exact run_convert_bytes_nil w 57 5 Tryd.underlying57 Tryd.underlying5 0 0 9 Tryd.underlying9
  · exact run_convert_bytes_back w 57 9 5 ⟨g, 0, none⟩ cap l Tryd.underlying57 Tryd.underlying5 Tryd.underlying9 (fun j hj => h.1.cells (g := g) (by simp [Value.ownBlock]) j _ (by simp [Lib.byteCells, hj]))
/-- what Escape puts in place of a byte; nothing if the byte stays -/
def rf (c : UInt8) (attr : Bool) : List UInt8 :=
  if c = 38 then [38, 97, 109, 112, 59] else if c = 60 then [38, 108, 116, 59] else if c = 62 then [38, 103, 116, 59] else if c = 13 then [38, 35, 49, 51, 59]
  else if attr = false then [] else if c = 34 then [38, 113, 117, 111, 116, 59] else if c = 9 then [38, 35, 57, 59] else if c = 10 then [38, 35, 49, 48, 59] else []
theorem rf_len (c : UInt8) (attr : Bool) : (rf c attr).length ≤ 6 := by
  unfold rf
  repeat' split
  all_goals decide
/-- a byte as it is escaped -/
def esc (attr : Bool) (c : UInt8) : List UInt8 := if rf c attr = [] then [c] else rf c attr
theorem esc_len (c : UInt8) (attr : Bool) : (esc attr c).length ≤ 6 := by
  unfold esc; split
  · simp
  · exact rf_len c attr
def escAll (attr : Bool) (l : List UInt8) : List UInt8 := l.flatMap (esc attr)
theorem escAll_snoc (attr : Bool) (l : List UInt8) (c : UInt8) : escAll attr (l ++ [c]) = escAll attr l ++ esc attr c := by simp [escAll]
theorem escAll_len (attr : Bool) : ∀ l : List UInt8, (escAll attr l).length ≤ 6 * l.length
  | [] => by simp [escAll]
  | c :: l => by
    have := escAll_len attr l
    have := esc_len c attr
    simp only [escAll, List.flatMap_cons, List.length_append, List.length_cons] at *
    omega
theorem u8_ne {c k : UInt8} (h : ¬ c = k) : ((c.toNat : Int) == (k.toNat : Int)) = false := by
  simp only [beq_eq_false_iff_ne, ne_eq]
  intro e
  exact h (UInt8.toNat_inj.1 (by omega))
set_option maxHeartbeats 1000000 in
theorem reference_any (c : UInt8) (attr : Bool) (w : World) :
    Calls Tryd.prog 36 #[.int .u8 (c.toNat : Int), .bool attr] w fun e w' => e = .returned (.string (mkb (rf c attr))) ∧ w = w' := by
  unfold rf
  by_cases h38 : c = 38
  · subst h38
    rw [if_pos rfl]
    go_enter Tryd.func36, Tryd.ntmps36
    go_wp2
    go_ret
    exact ⟨rfl, rfl⟩
  rw [if_neg h38]
  by_cases h60 : c = 60
  · subst h60
    rw [if_pos rfl]
    go_enter Tryd.func36, Tryd.ntmps36
    go_wp2
    go_ret
    exact ⟨rfl, rfl⟩
  rw [if_neg h60]
  by_cases h62 : c = 62
  · subst h62
    rw [if_pos rfl]
    go_enter Tryd.func36, Tryd.ntmps36
    go_wp2
    go_ret
    exact ⟨rfl, rfl⟩
  rw [if_neg h62]
  by_cases h13 : c = 13
  · subst h13
    rw [if_pos rfl]
    go_enter Tryd.func36, Tryd.ntmps36
    go_wp2
    go_ret
    exact ⟨rfl, rfl⟩
  rw [if_neg h13]
  have g1 : ((c.toNat : Int) == 38) = false := u8_ne h38
  have g2 : ((c.toNat : Int) == 60) = false := u8_ne h60
  have g3 : ((c.toNat : Int) == 62) = false := u8_ne h62
  have g4 : ((c.toNat : Int) == 13) = false := u8_ne h13
  cases attr with
  | false =>
    rw [if_pos rfl]
    clear h38 h60 h62 h13
    go_enter Tryd.func36, Tryd.ntmps36
    go_wp2
    go_ret
    exact ⟨rfl, rfl⟩
  | true =>
    rw [if_neg (by decide)]
    by_cases h34 : c = 34
    · subst h34
      rw [if_pos rfl]
      clear g1 g2 g3 g4
      go_enter Tryd.func36, Tryd.ntmps36
      go_wp2
      go_ret
      exact ⟨rfl, rfl⟩
    rw [if_neg h34]
    by_cases h9 : c = 9
    · subst h9
      rw [if_pos rfl]
      clear g1 g2 g3 g4
      go_enter Tryd.func36, Tryd.ntmps36
      go_wp2
      go_ret
      exact ⟨rfl, rfl⟩
    rw [if_neg h9]
    by_cases h10 : c = 10
    · subst h10
      rw [if_pos rfl]
      clear g1 g2 g3 g4
      go_enter Tryd.func36, Tryd.ntmps36
      go_wp2
      go_ret
      exact ⟨rfl, rfl⟩
    rw [if_neg h10]
    have g5 : ((c.toNat : Int) == 34) = false := u8_ne h34
    have g6 : ((c.toNat : Int) == 9) = false := u8_ne h9
    have g7 : ((c.toNat : Int) == 10) = false := u8_ne h10
    clear h38 h60 h62 h13 h34 h9 h10
    go_enter Tryd.func36, Tryd.ntmps36
    go_wp2
    go_ret
    exact ⟨rfl, rfl⟩
theorem esc_self {c : UInt8} {attr : Bool} (h : rf c attr = []) : esc attr c = [c] := if_pos h
theorem esc_ref {c : UInt8} {attr : Bool} (h : ¬ rf c attr = []) : esc attr c = rf c attr := if_neg h
set_option maxHeartbeats 4000000 in
theorem escape_text (s : ByteArray) (attr : Bool) (hs : 8 * s.size ≤ 140737488355328) (ht : isText s = true) (w : World) (hT : Tabs w) :
    Calls Tryd.prog 11 #[.string s, .bool attr] w fun e w' => e = .returned (.tuple #[.string (mkb (escAll attr s.data.toList)), .int .i64 0]) ∧ Below w.heap.size w w' := by
  have hV := valid_any s (by unfold maxLen; omega) w hT
  rw [ht] at hV
  have HV := Lib.hid hV
  obtain ⟨i0, hi, hz0, hz1, hz2⟩ := info_parts infoByte
  obtain ⟨B, hB⟩ : ∃ B, B = w.heap.size := ⟨_, rfl⟩
  have HB := Lib.hid hB
  clear hV ht hT hB
  go_enter Tryd.func11, Tryd.ntmps11
  go_wp2_with (go_at_call 33; ((with_reducible refine (HV.out).mono ?_); rintro e w1 ⟨rfl, hb1⟩; obtain ⟨osA, dA, rfl⟩ := ext_of_below hb1; clear hb1))
  go_loopw [6, 7] (fun v i wr => ∃ k : Nat, k ≤ s.size ∧ i = .int .i64 k ∧ Hid (Buf B v (escAll attr (s.data.toList.take k)) w wr)) (fun _ i _ => s.size - (intOf i).toNat)
  case atStart => exact ⟨0, Nat.zero_le _, rfl, Lib.hid (by rw [HB.out]; exact Buf.nil w (by (repeat' (first | (with_reducible exact Below.refl _ _) | (with_reducible assumption) | (with_reducible refine Below.alloc ?_ ?_ _) | (with_reducible refine below_drewN ?_ _) | (with_reducible refine below_drew ?_) | (with_reducible refine below_ext ?_ ?_ _ _) | (with_reducible refine Below.setCell ?_ ?_ _) | (simp; done) | (simp; omega) | omega))))⟩
  case round =>
    obtain ⟨k, hk, rfl, hb0⟩ := hrel
    have hlen0 := escAll_len attr (s.data.toList.take k)
    have hl0 : (s.data.toList.take k).length ≤ k := List.length_take_le _ _
    have hl : (escAll attr (s.data.toList.take k)).length ≤ 6 * k := by omega
    clear hlen0 hl0
    by_cases hlt : k < s.size
    · have HT := Lib.hid (take_snoc s k hlt)
      have HE := Lib.hid (escAll_snoc attr (s.data.toList.take k) s[k])
      have HR := Lib.hid (reference_any s[k] attr)
      by_cases hr : rf s[k] attr = []
      · have hR := HR.out
        rw [hr] at hR
        have HR2 := Lib.hid hR
        have HS := Lib.hid (esc_self hr)
        clear hr hR HR
        have hb := hb0.out
        go_wp2_with (first
          | (go_at_call 36; ((with_reducible refine (HR2.out _).mono ?_); rintro e w' ⟨rfl, rfl⟩))
          | (at_builtin; refine Lib.wpList_append_byte rfl _ _ 57 rfl B 5 i0 Tryd.underlying57 hi hz0 hz1 hz2 _ _ _ rfl w _ _ (by assumption) rfl (by omega) ?_; intro _ _ hb))
        go_roundw
        case rel => exact ⟨k + 1, by omega, by go_num, Lib.hid (Buf.congr hb (by rw [HT.out, HE.out, HS.out, List.length_append]; rfl) (by rw [HT.out, HE.out, HS.out, bytes_snoc]))⟩
        case measure => simp [intOf]; omega
      · obtain ⟨r, hrr⟩ : ∃ r, r = mkb (rf s[k] attr) := ⟨_, rfl⟩
        have hR := HR.out
        rw [← hrr] at hR
        have HR2 := Lib.hid hR
        have hsz : r.size ≤ 6 := by rw [hrr]; exact rf_len _ _
        have hne : r.toList.isEmpty = false := by rw [hrr, ByteArray.toList_mk]; simpa using hr
        have HRR := Lib.hid hrr
        have HS := Lib.hid (esc_ref hr)
        clear hr hR HR hrr
        have hb := hb0.out
        go_wp2_with (first
          | (go_at_call 36; ((with_reducible refine (HR2.out _).mono ?_); rintro e w' ⟨rfl, rfl⟩))
          | (at_builtin; refine Lib.wpList_append_text rfl _ _ 57 9 rfl B 5 i0 Tryd.underlying57 Tryd.underlying9 hi hz0 hz1 hz2 _ _ _ rfl w (by assumption) _ rfl (by omega) ?_; intro _ _ hb))
        go_roundw
        case rel => exact ⟨k + 1, by omega, by go_num, Lib.hid (Buf.congr hb (by rw [HT.out, HE.out, HS.out, List.length_append, HRR.out]; rfl) (by rw [HT.out, HE.out, HS.out, HRR.out, bytes_app]))⟩
        case measure => simp [intOf]; omega
    · obtain rfl : k = s.size := by omega
      have hb := hb0.out
      rw [List.take_of_length_le (by simp)] at hb
      have hcv := hb.conv
      go_wp2
      go_ret2
      exact ⟨rfl, by have := hb.2.1; rw [HB.out] at this; exact this⟩
end Go.Proofs.YtgmfggflbcegjaaDoor
