/-
  The document's Escape; what is escaped is a text.
-/
import Derived.Test.YtgmfggflbcegjaaDoorEscB
namespace Go.Proofs.YtgmfggflbcegjaaDoor
open Go.RowKit Txt
attribute [local go_sem] setCell_drewN cell?_ext frozen?_ext shape?_ext setCell_ext lt_1' ne_1' en_1' le_1' lt_2' ne_2' en_2' le_2' lt_3' ne_3' en_3' le_3' lt_4' ne_4' en_4' le_4' lt_5' ne_5' en_5' le_5' lt_6' ne_6' en_6' le_6' lt_7' ne_7' en_7' le_7' lt_8' ne_8' en_8' le_8' lt_9' ne_9' en_9' le_9' lt_10' ne_10' en_10' le_10' lt_11' ne_11' en_11' le_11' lt_12' ne_12' en_12' le_12'

theorem Buf.later {B : Nat} {v : Value} {l : List UInt8} {W0 w w' : World} (h : Buf B v l W0 w) (hb : Below w.heap.size w w') : Buf B v l W0 w' := by
  have hg : w.grownBy w' none := ⟨hb.os, hb.tape, hb.output, hb.size, fun k hk _ => hb.block k hk⟩
  refine ⟨h.1.kept hg ?_, h.2.1.grown hg h.2.2 (fun k e => by cases e), Nat.le_trans h.2.2 hb.size⟩
  cases v.ownBlock with
  | none => exact .inl rfl
  | some k => exact .inr (by simp)
theorem esc_high {attr : Bool} {c : UInt8} (h : 128 ≤ c.toNat) : esc attr c = [c] := by
  refine esc_plain ?_ ?_ ?_ ?_ (.inr ⟨?_, ?_, ?_⟩)
  all_goals (rintro rfl; exact absurd h (by decide))
theorem ascii_all : ∀ {l : List UInt8}, (∀ c ∈ l, c.toNat < 128 ∧ okI (c.toNat : Int) = true) → TX l
  | [], _ => .nil
  | c :: r, h => TX.append (a := [c]) (.ascii (h c (by simp)).1 (h c (by simp)).2) (ascii_all fun d hd => h d (by simp [hd]))
theorem esc_ascii (attr : Bool) {c : UInt8} (hc : c.toNat < 128) (hok : okI (c.toNat : Int) = true) : TX (esc attr c) := by
  by_cases hr : rf c attr = []
  · rw [esc_self hr]; exact .ascii hc hok
  · rw [esc_ref hr]
    apply ascii_all
    unfold rf
    repeat' split
    all_goals decide
theorem escaped_TX (attr : Bool) {l : List UInt8} (h : TX l) : TX (escAll attr l) := TX.flat (fun _ hc => esc_high hc) (fun _ hc hok => esc_ascii attr hc hok) h
set_option maxHeartbeats 4000000 in
theorem docescape_text (s : ByteArray) (attr : Bool) (hs : s.size ≤ 1048576) (ht : isText s = true) (w : World) :
    Calls Tryd.prog 10 #[.string s, .bool attr] w fun e w' => e = .returned (.tuple #[.string (mkb (escAll attr s.data.toList)), .int .i64 0]) ∧ Below w.heap.size w w' := by
  have hV := rvalid_any s hs w
  rw [ht] at hV
  have HV := Lib.hid hV
  obtain ⟨i0, hi, hz0, hz1, hz2⟩ := info_parts infoByte
  obtain ⟨B, hB⟩ : ∃ B, B = w.heap.size := ⟨_, rfl⟩
  have HB := Lib.hid hB
  clear hV ht hB
  go_enter Tryd.func10, Tryd.ntmps10
  go_wp2_with (go_at_call 21; ((with_reducible refine (HV.out).mono ?_); rintro e w1 ⟨rfl, hb1⟩; obtain ⟨osA, dA, rfl⟩ := ext_of_below hb1; clear hb1))
  go_loopw [6, 7] (fun v i wr => ∃ k : Nat, k ≤ s.size ∧ i = .int .i64 k ∧ Hid (Buf B v (escAll attr (s.data.toList.take k)) w wr)) (fun _ i _ => s.size - (intOf i).toNat)
  case atStart => exact ⟨0, Nat.zero_le _, rfl, Lib.hid (by rw [HB.out]; exact Buf.nil w (by (repeat' (first | (with_reducible exact Below.refl _ _) | (with_reducible assumption) | (with_reducible refine Below.alloc ?_ ?_ _) | (with_reducible refine below_drewN ?_ _) | (with_reducible refine below_drew ?_) | (with_reducible refine below_ext ?_ ?_ _ _) | (with_reducible refine Below.setCell ?_ ?_ _) | (simp; done) | (simp; omega) | omega))))⟩
  case round =>
    obtain ⟨k, hk, rfl, hb0⟩ := hrel
    have hlen0 := escAll_len attr (s.data.toList.take k)
    have hl0 : (s.data.toList.take k).length ≤ k := List.length_take_le _ _
    have hl : (escAll attr (s.data.toList.take k)).length ≤ 6 * k := by omega
    clear hlen0 hl0
    by_cases hlt : k < s.size
    · have hlti : (k : Int) < s.size := by omega
      have HT := Lib.hid (take_snoc s k hlt)
      have HE := Lib.hid (escAll_snoc attr (s.data.toList.take k) s[k])
      obtain ⟨r, hrr⟩ : ∃ r, r = mkb (esc attr s[k]) := ⟨_, rfl⟩
      have hR := fun w => rescape_any s[k] attr w
      rw [← hrr] at hR
      have HR2 := Lib.hid hR
      have hsz : r.size ≤ 6 := by rw [hrr]; exact esc_len _ _
      have HRR := Lib.hid hrr
      clear hR hrr
      have hb := hb0.out
      have hcase : r.toList.isEmpty = false := by
        rw [HRR.out, ByteArray.toList_mk]
        unfold esc
        split
        · rfl
        · rename_i h; cases he : rf s[k] attr with
          | nil => exact absurd he h
          | cons => rfl
      go_wp2_with (first
        | (go_at_call 35; ((with_reducible refine (HR2.out _).mono ?_); rintro e w1 ⟨rfl, hb1⟩; have hb := Buf.later hb hb1))
        | (at_builtin; refine Lib.wpList_append_text rfl _ _ 57 9 rfl B 5 i0 Tryd.underlying57 Tryd.underlying9 hi hz0 hz1 hz2 _ _ _ rfl w (by assumption) _ rfl (by omega) ?_; intro _ _ hb))
      go_roundw
      case rel => exact ⟨k + 1, by omega, by go_num, Lib.hid (Buf.congr hb (by rw [HT.out, HE.out, List.length_append, HRR.out]; rfl) (by rw [HT.out, HE.out, HRR.out, bytes_app]))⟩
      case measure => simp [intOf]; omega
    · obtain rfl : k = s.size := by omega
      have hb := hb0.out
      rw [List.take_of_length_le (by simp)] at hb
      have hcv := hb.conv
      go_wp2
      go_ret2
      exact ⟨rfl, by have := hb.2.1; rw [HB.out] at this; exact this⟩
theorem docescape_bad (s : ByteArray) (attr : Bool) (hs : s.size ≤ 1048576) (ht : isText s = false) (w : World) :
    Calls Tryd.prog 10 #[.string s, .bool attr] w fun e w' => e = .returned (.tuple #[.string { data := #[] }, .int .i64 2]) ∧ Below w.heap.size w w' := by
  have hV := rvalid_any s hs w
  rw [ht] at hV
  have HV := Lib.hid hV
  clear hV ht
  go_enter Tryd.func10, Tryd.ntmps10
  go_wp2_with (go_at_call 21; ((with_reducible refine (HV.out).mono ?_); rintro e w1 ⟨rfl, hb1⟩; obtain ⟨osA, dA, rfl⟩ := ext_of_below hb1; clear hb1))
  go_ret2
  exact ⟨rfl, by (repeat' (first | (with_reducible exact Below.refl _ _) | (with_reducible assumption) | (with_reducible refine Below.alloc ?_ ?_ _) | (with_reducible refine below_drewN ?_ _) | (with_reducible refine below_drew ?_) | (with_reducible refine below_ext ?_ ?_ _ _) | (with_reducible refine Below.setCell ?_ ?_ _) | (simp; done) | (simp; omega) | omega))⟩
end Go.Proofs.YtgmfggflbcegjaaDoor
