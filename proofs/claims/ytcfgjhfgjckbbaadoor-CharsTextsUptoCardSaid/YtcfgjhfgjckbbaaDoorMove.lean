/-
  Contracts of Upper and Lower on both sides: a copy of the text whose letters are moved one by one.
-/
import Derived.Test.YtcfgjhfgjckbbaaDoorParts
import Derived.Lib.ConvBytes
namespace Go.Proofs.YtcfgjhfgjckbbaaDoor
open Go.RowKit Txt
attribute [local go_sem] setCell_drewN cell?_ext frozen?_ext shape?_ext setCell_ext lt_1' ne_1' en_1' le_1' lt_2' ne_2' en_2' le_2' lt_3' ne_3' en_3' le_3' lt_4' ne_4' en_4' le_4' lt_5' ne_5' en_5' le_5' lt_6' ne_6' en_6' le_6' lt_7' ne_7' en_7' le_7' lt_8' ne_8' en_8' le_8' lt_9' ne_9' en_9' le_9' lt_10' ne_10' en_10' le_10' lt_11' ne_11' en_11' le_11' lt_12' ne_12' en_12' le_12'

/-- a row of the call's own holds these bytes -/
structure MRow (W0 w : World) (g n : Nat) (f : Nat → Nat) : Prop where
  own : W0.heap.size ≤ g
  below : Below W0.heap.size W0 w
  cell : ∀ j, j < n → w.cell? ⟨g, j, none⟩ = some (.int .u8 (f j : Int))
  free : ∀ j, j < n → w.frozen? ⟨g, j, none⟩ = false
/-- the bytes of a text -/
def byteAt (s : ByteArray) (j : Nat) : Nat := (s.data.toList.getD j 0).toNat
theorem MRow.start {W0 W : World} (hb : Below W0.heap.size W0 W) (s : ByteArray) : MRow W0 (Lib.bytesWorld W 5 s) W.heap.size s.size (byteAt s) := by
  refine ⟨hb.size, ?_, fun j hj => Lib.bytesWorld_cell W 5 s j hj, fun j hj => ?_⟩
  · refine hb.trans ⟨rfl, rfl, rfl, by rw [Lib.bytesWorld_size]; have := hb.size; omega, fun k hk => Lib.bytesWorld_at_old W 5 s k (Nat.lt_of_lt_of_le hk hb.size)⟩
  · unfold World.frozen?
    rw [Lib.bytesWorld_at_new]
    have : s.size ≤ (Lib.bytesCells W 5 s).size := by simp [Lib.bytesCells]
    simp only [Bool.and_eq_false_iff, decide_eq_false_iff_not]
    exact .inl (by omega)
theorem MRow.store {W0 w : World} {g n : Nat} {f : Nat → Nat} (h : MRow W0 w g n f) (k v : Nat) (hk : k < n) : MRow W0 (w.setCell ⟨g, k, none⟩ (.int .u8 (v : Int))) g n (fun j => if j = k then v else f j) := by
  refine ⟨h.own, h.below.setCell (p := ⟨g, k, none⟩) h.own _, fun j hj => ?_, fun j hj => by rw [World.frozen?_setCell]; exact h.free j hj⟩
  by_cases e : j = k
  · subst e
    rw [World.cell?_setCell_same w _ _ (h.cell j hj)]
    simp
  · rw [World.cell?_setCell_other w _ _ _ (by intro e2; injection e2 with _ e3 _; exact e e3.symm), h.cell j hj]
    simp [e]
theorem MRow.congr {W0 w : World} {g n : Nat} {f f' : Nat → Nat} (h : MRow W0 w g n f) (he : ∀ j, j < n → f j = f' j) : MRow W0 w g n f' :=
  ⟨h.own, h.below, fun j hj => by rw [h.cell j hj, he j hj], h.free⟩
theorem MRow.conv {W0 w : World} {g n cap : Nat} {f : Nat → Nat} (h : MRow W0 w g n f) (l : List UInt8) (hl : l.length = n) (hf : ∀ j (hj : j < l.length), f j = l[j].toNat) :
    (convert 62 9 (.slice (some ⟨g, 0, none⟩) n cap)).run Tryd.prog w = .ok (.string (mkb l)) w := by
  subst hl
  refine run_convert_bytes_back w 62 9 5 ⟨g, 0, none⟩ cap l Tryd.underlying62 Tryd.underlying5 Tryd.underlying9 (fun j hj => ?_)
  have := h.cell j hj
  rw [hf j hj] at this
  by_cases hj0 : j = 0
  · subst hj0; simpa [Addr.add] using this
  · simpa [Addr.add, hj0] using this
/-- a letter moved -/
def mvN (o n x : Nat) : Nat := if o ≤ x ∧ x < o + 26 then x - o + n else x
def mvL (o n : Nat) (l : List UInt8) : List UInt8 := l.map fun c => UInt8.ofNat (mvN o n c.toNat)
def part (s : ByteArray) (o n k : Nat) (j : Nat) : Nat := if j < k then mvN o n (byteAt s j) else byteAt s j
theorem part_step (s : ByteArray) (o n k : Nat) (j : Nat) : (if j = k then mvN o n (byteAt s k) else part s o n k j) = part s o n (k + 1) j := by
  unfold part
  by_cases e : j = k
  · subst e; rw [if_pos rfl, if_pos (by omega)]
  · rw [if_neg e]
    by_cases h : j < k
    · rw [if_pos h, if_pos (by omega)]
    · rw [if_neg h, if_neg (by omega)]
theorem byteAt_lt (s : ByteArray) (j : Nat) : byteAt s j < 256 := UInt8.toNat_lt _
theorem part_end_list (s : ByteArray) (o n : Nat) (hon : o + 26 ≤ 256 ∧ n + 26 ≤ 256) : (mvL o n s.data.toList).length = s.size ∧ ∀ j (hj : j < (mvL o n s.data.toList).length), part s o n s.size j = ((mvL o n s.data.toList)[j]).toNat := by
  have hl : (mvL o n s.data.toList).length = s.size := by simp [mvL]
  refine ⟨hl, fun j hj => ?_⟩
  have hj' : j < s.size := by omega
  have hj2 : j < s.data.toList.length := by simpa using hj'
  unfold part
  rw [if_pos hj']
  have hb : byteAt s j = (s.data.toList[j]).toNat := by unfold byteAt; rw [List.getD_eq_getElem?_getD, List.getElem?_eq_getElem hj2]; rfl
  have hlt := UInt8.toNat_lt (s.data.toList[j])
  simp only [mvL, List.getElem_map]
  rw [hb, UInt8.toNat_ofNat']
  unfold mvN
  split <;> omega
theorem conv_to (s : ByteArray) : ∀ W, (convert 9 62 (.string s)).run Tryd.prog W = .ok (.slice (some ⟨W.heap.size, 0, none⟩) s.size (grownCap W s.size 0 5)) (Lib.bytesWorld W 5 s) :=
  fun W => Lib.run_convert_string_bytes W 9 62 5 s Tryd.underlying9 Tryd.underlying62 Tryd.underlying5
set_option maxRecDepth 100000 in
set_option maxHeartbeats 4000000 in
theorem shift_text (s : ByteArray) (o n : Nat) (hon : (o = 97 ∧ n = 65) ∨ (o = 65 ∧ n = 97)) (hs : s.size ≤ 1048576) (ht : isText s = true) (w : World) (hT : Tabs w) :
    Calls Tryd.prog 74 #[.string s, .int .u8 (o : Int), .int .u8 (n : Int)] w fun e w' => e = .returned (.tuple #[.string (mkb (mvL o n s.data.toList)), .int .i64 0]) ∧ Below w.heap.size w w' := by
  have hV := valid_any s (by unfold maxLen; omega) w hT
  rw [ht] at hV
  have HV := Lib.hid hV
  have kc := conv_to s
  clear hV ht hT
  rcases hon with ⟨rfl, rfl⟩ | ⟨rfl, rfl⟩
  · go_enter Tryd.func74, Tryd.ntmps74
    go_wp2_with (go_at_call 33; ((with_reducible refine (HV.out).mono ?_); rintro e w1 ⟨rfl, hb1⟩; obtain ⟨osA, dA, rfl⟩ := ext_of_below hb1; clear hb1))
    have hst : MRow w (Lib.bytesWorld (ext w osA dA) 5 s) (w.heap.size + osA.size) s.size (byteAt s) := by
      have := MRow.start (W0 := w) (W := ext w osA dA) (by (repeat' (first | (with_reducible exact Below.refl _ _) | (with_reducible assumption) | (with_reducible refine Below.alloc ?_ ?_ _) | (with_reducible refine below_drewN ?_ _) | (with_reducible refine below_drew ?_) | (with_reducible refine below_ext ?_ ?_ _ _) | (with_reducible refine Below.setCell ?_ ?_ _) | (simp; done) | (simp; omega) | omega))) s
      rw [ext_size] at this
      exact this
    have HST := Lib.hid hst
    clear hst
    go_loopw [18] (fun i wr => ∃ k : Nat, k ≤ s.size ∧ i = .int .i64 k ∧ Hid (MRow w wr (w.heap.size + osA.size) s.size (part s 97 65 k))) (fun i _ => s.size - (intOf i).toNat)
    case atStart => exact ⟨0, Nat.zero_le _, rfl, Lib.hid (HST.out.congr (fun j _ => by unfold part; rw [if_neg (by omega)]))⟩
    case round =>
      obtain ⟨k, hk, rfl, hm⟩ := hrel
      by_cases hlt : k < s.size
      · have hc := hm.out.cell k hlt
        have hz := hm.out.free k hlt
        rw [show part s 97 65 k k = byteAt s k by unfold part; rw [if_neg (by omega)]] at hc
        have hx := byteAt_lt s k
        have hstep := fun v (hv : v = mvN 97 65 (byteAt s k)) => (hm.out.store k v hlt).congr (f' := part s 97 65 (k + 1)) (fun j _ => by rw [hv]; exact part_step s 97 65 k j)
        have hsame := fun (hv : byteAt s k = mvN 97 65 (byteAt s k)) => hm.out.congr (f' := part s 97 65 (k + 1)) (fun j _ => by
          have := part_step s 97 65 k j
          rw [← this]
          by_cases e : j = k
          · subst e; rw [if_pos rfl, ← hv]; unfold part; rw [if_neg (by omega)]
          · rw [if_neg e])
        have HS := Lib.hid hstep; have HE := Lib.hid hsame
        obtain ⟨x, hxx⟩ : ∃ x, x = byteAt s k := ⟨_, rfl⟩
        rw [← hxx] at hc hx HS HE
        clear hstep hsame hxx
        by_cases hr : 97 ≤ x ∧ x < 123
        · obtain ⟨r1, r2⟩ := hr
          have r3 : (97 : Int) ≤ (x : Int) := by omega
          have r4 : (x : Int) < 123 := by omega
          have W1 : IntKind.u8.wrap ((x : Int) - 97) = (x : Int) - 97 := by rw [IntKind.wrap_u8]; omega
          have W2 : IntKind.u8.wrap ((x : Int) - 97 + 65) = (x : Int) - 97 + 65 := by rw [IntKind.wrap_u8]; omega
          have e := Lib.hid (show (x : Int) - 97 + 65 = ((x - 97 + 65 : Nat) : Int) by omega)
          go_wp2
          go_roundw
          case rel => exact ⟨k + 1, by omega, by go_num, Lib.hid (by rw [e.out]; exact HS.out _ (by unfold mvN; rw [if_pos ⟨r1, r2⟩]))⟩
          case measure => simp [intOf]; omega
        · have hcase : x < 97 ∨ (97 ≤ x ∧ 123 ≤ x) := by omega
          have HM := Lib.hid (HE.out (by unfold mvN; rw [if_neg hr]))
          clear hr
          rcases hcase with h1 | ⟨h1, h2⟩
          · have h1' : (x : Int) < 97 := by omega
            go_wp2
            go_roundw
            case rel => exact ⟨k + 1, by omega, by go_num, HM⟩
            case measure => simp [intOf]; omega
          · have h1' : (97 : Int) ≤ (x : Int) := by omega
            have h2' : (123 : Int) ≤ (x : Int) := by omega
            go_wp2
            go_roundw
            case rel => exact ⟨k + 1, by omega, by go_num, HM⟩
            case measure => simp [intOf]; omega
      · obtain rfl : k = s.size := by omega
        obtain ⟨el, ef⟩ := part_end_list s 97 65 (by decide)
        have hcv := fun cap => hm.out.conv (cap := cap) (mvL 97 65 s.data.toList) el ef
        have hbel := hm.out.below
        go_wp2
        go_ret2
        exact ⟨rfl, hbel⟩
  · go_enter Tryd.func74, Tryd.ntmps74
    go_wp2_with (go_at_call 33; ((with_reducible refine (HV.out).mono ?_); rintro e w1 ⟨rfl, hb1⟩; obtain ⟨osA, dA, rfl⟩ := ext_of_below hb1; clear hb1))
    have hst : MRow w (Lib.bytesWorld (ext w osA dA) 5 s) (w.heap.size + osA.size) s.size (byteAt s) := by
      have := MRow.start (W0 := w) (W := ext w osA dA) (by (repeat' (first | (with_reducible exact Below.refl _ _) | (with_reducible assumption) | (with_reducible refine Below.alloc ?_ ?_ _) | (with_reducible refine below_drewN ?_ _) | (with_reducible refine below_drew ?_) | (with_reducible refine below_ext ?_ ?_ _ _) | (with_reducible refine Below.setCell ?_ ?_ _) | (simp; done) | (simp; omega) | omega))) s
      rw [ext_size] at this
      exact this
    have HST := Lib.hid hst
    clear hst
    go_loopw [18] (fun i wr => ∃ k : Nat, k ≤ s.size ∧ i = .int .i64 k ∧ Hid (MRow w wr (w.heap.size + osA.size) s.size (part s 65 97 k))) (fun i _ => s.size - (intOf i).toNat)
    case atStart => exact ⟨0, Nat.zero_le _, rfl, Lib.hid (HST.out.congr (fun j _ => by unfold part; rw [if_neg (by omega)]))⟩
    case round =>
      obtain ⟨k, hk, rfl, hm⟩ := hrel
      by_cases hlt : k < s.size
      · have hc := hm.out.cell k hlt
        have hz := hm.out.free k hlt
        rw [show part s 65 97 k k = byteAt s k by unfold part; rw [if_neg (by omega)]] at hc
        have hx := byteAt_lt s k
        have hstep := fun v (hv : v = mvN 65 97 (byteAt s k)) => (hm.out.store k v hlt).congr (f' := part s 65 97 (k + 1)) (fun j _ => by rw [hv]; exact part_step s 65 97 k j)
        have hsame := fun (hv : byteAt s k = mvN 65 97 (byteAt s k)) => hm.out.congr (f' := part s 65 97 (k + 1)) (fun j _ => by
          have := part_step s 65 97 k j
          rw [← this]
          by_cases e : j = k
          · subst e; rw [if_pos rfl, ← hv]; unfold part; rw [if_neg (by omega)]
          · rw [if_neg e])
        have HS := Lib.hid hstep; have HE := Lib.hid hsame
        obtain ⟨x, hxx⟩ : ∃ x, x = byteAt s k := ⟨_, rfl⟩
        rw [← hxx] at hc hx HS HE
        clear hstep hsame hxx
        by_cases hr : 65 ≤ x ∧ x < 91
        · obtain ⟨r1, r2⟩ := hr
          have r3 : (65 : Int) ≤ (x : Int) := by omega
          have r4 : (x : Int) < 91 := by omega
          have W1 : IntKind.u8.wrap ((x : Int) - 65) = (x : Int) - 65 := by rw [IntKind.wrap_u8]; omega
          have W2 : IntKind.u8.wrap ((x : Int) - 65 + 97) = (x : Int) - 65 + 97 := by rw [IntKind.wrap_u8]; omega
          have e := Lib.hid (show (x : Int) - 65 + 97 = ((x - 65 + 97 : Nat) : Int) by omega)
          go_wp2
          go_roundw
          case rel => exact ⟨k + 1, by omega, by go_num, Lib.hid (by rw [e.out]; exact HS.out _ (by unfold mvN; rw [if_pos ⟨r1, r2⟩]))⟩
          case measure => simp [intOf]; omega
        · have hcase : x < 65 ∨ (65 ≤ x ∧ 91 ≤ x) := by omega
          have HM := Lib.hid (HE.out (by unfold mvN; rw [if_neg hr]))
          clear hr
          rcases hcase with h1 | ⟨h1, h2⟩
          · have h1' : (x : Int) < 65 := by omega
            go_wp2
            go_roundw
            case rel => exact ⟨k + 1, by omega, by go_num, HM⟩
            case measure => simp [intOf]; omega
          · have h1' : (65 : Int) ≤ (x : Int) := by omega
            have h2' : (91 : Int) ≤ (x : Int) := by omega
            go_wp2
            go_roundw
            case rel => exact ⟨k + 1, by omega, by go_num, HM⟩
            case measure => simp [intOf]; omega
      · obtain rfl : k = s.size := by omega
        obtain ⟨el, ef⟩ := part_end_list s 65 97 (by decide)
        have hcv := fun cap => hm.out.conv (cap := cap) (mvL 65 97 s.data.toList) el ef
        have hbel := hm.out.below
        go_wp2
        go_ret2
        exact ⟨rfl, hbel⟩
set_option maxRecDepth 100000 in
set_option maxHeartbeats 4000000 in
theorem moved_text (s : ByteArray) (o h n : Nat) (d : Int) (hon : (o = 97 ∧ h = 122 ∧ n = 65 ∧ d = -32) ∨ (o = 65 ∧ h = 90 ∧ n = 97 ∧ d = 32)) (hs : s.size ≤ 1048576) (ht : isText s = true) (w : World) :
    Calls Tryd.prog 73 #[.string s, .int .u8 (o : Int), .int .u8 (h : Int), .int .i64 d] w fun e w' => e = .returned (.tuple #[.string (mkb (mvL o n s.data.toList)), .int .i64 0]) ∧ Below w.heap.size w w' := by
  have hV := rvalid_any s hs w
  rw [ht] at hV
  have HV := Lib.hid hV
  have kc := conv_to s
  clear hV ht
  rcases hon with ⟨rfl, rfl, rfl, rfl⟩ | ⟨rfl, rfl, rfl, rfl⟩
  · go_enter Tryd.func73, Tryd.ntmps73
    go_wp2_with (go_at_call 34; ((with_reducible refine (HV.out).mono ?_); rintro e w1 ⟨rfl, hb1⟩; obtain ⟨osA, dA, rfl⟩ := ext_of_below hb1; clear hb1))
    have hst : MRow w (Lib.bytesWorld (ext w osA dA) 5 s) (w.heap.size + osA.size) s.size (byteAt s) := by
      have := MRow.start (W0 := w) (W := ext w osA dA) (by (repeat' (first | (with_reducible exact Below.refl _ _) | (with_reducible assumption) | (with_reducible refine Below.alloc ?_ ?_ _) | (with_reducible refine below_drewN ?_ _) | (with_reducible refine below_drew ?_) | (with_reducible refine below_ext ?_ ?_ _ _) | (with_reducible refine Below.setCell ?_ ?_ _) | (simp; done) | (simp; omega) | omega))) s
      rw [ext_size] at this
      exact this
    have HST := Lib.hid hst
    clear hst
    go_loopw [11] (fun i wr => ∃ k : Nat, k ≤ s.size ∧ i = .int .i64 k ∧ Hid (MRow w wr (w.heap.size + osA.size) s.size (part s 97 65 k))) (fun i _ => s.size - (intOf i).toNat)
    case atStart => exact ⟨0, Nat.zero_le _, rfl, Lib.hid (HST.out.congr (fun j _ => by unfold part; rw [if_neg (by omega)]))⟩
    case round =>
      obtain ⟨k, hk, rfl, hm⟩ := hrel
      by_cases hlt : k < s.size
      · have hc := hm.out.cell k hlt
        have hz := hm.out.free k hlt
        rw [show part s 97 65 k k = byteAt s k by unfold part; rw [if_neg (by omega)]] at hc
        have hx := byteAt_lt s k
        have hstep := fun v (hv : v = mvN 97 65 (byteAt s k)) => (hm.out.store k v hlt).congr (f' := part s 97 65 (k + 1)) (fun j _ => by rw [hv]; exact part_step s 97 65 k j)
        have hsame := fun (hv : byteAt s k = mvN 97 65 (byteAt s k)) => hm.out.congr (f' := part s 97 65 (k + 1)) (fun j _ => by
          have := part_step s 97 65 k j
          rw [← this]
          by_cases e : j = k
          · subst e; rw [if_pos rfl, ← hv]; unfold part; rw [if_neg (by omega)]
          · rw [if_neg e])
        have HS := Lib.hid hstep; have HE := Lib.hid hsame
        obtain ⟨x, hxx⟩ : ∃ x, x = byteAt s k := ⟨_, rfl⟩
        rw [← hxx] at hc hx HS HE
        clear hstep hsame hxx
        by_cases hr : 97 ≤ x ∧ x < 123
        · obtain ⟨r1, r2⟩ := hr
          have r3 : (97 : Int) ≤ (x : Int) := by omega
          have r4 : (x : Int) ≤ 122 := by omega
          have r5 : decide ((x : Int) ≤ 122) = true := by simp; omega
          go_wp2
          go_roundw
          case rel => exact ⟨k + 1, by omega, by go_num, Lib.hid (by
            have h := HS.out (x - 97 + 65) (by unfold mvN; rw [if_pos ⟨r1, r2⟩])
            have e : ((x - 97 + 65 : Nat) : Int) = (x : Int) + (-32) := by omega
            rw [e] at h
            exact h)⟩
          case measure => simp [intOf]; omega
        · have hcase : x < 97 ∨ (97 ≤ x ∧ 122 < x) := by omega
          have HM := Lib.hid (HE.out (by unfold mvN; rw [if_neg hr]))
          clear hr
          rcases hcase with h1 | ⟨h1, h2⟩
          · have h1' : (x : Int) < 97 := by omega
            go_wp2
            go_roundw
            case rel => exact ⟨k + 1, by omega, by go_num, HM⟩
            case measure => simp [intOf]; omega
          · have h1' : (97 : Int) ≤ (x : Int) := by omega
            have h2' : (122 : Int) < (x : Int) := by omega
            have r5 : decide ((x : Int) ≤ 122) = false := by simp; omega
            go_wp2
            go_roundw
            case rel => exact ⟨k + 1, by omega, by go_num, HM⟩
            case measure => simp [intOf]; omega
      · obtain rfl : k = s.size := by omega
        obtain ⟨el, ef⟩ := part_end_list s 97 65 (by decide)
        have hcv := fun cap => hm.out.conv (cap := cap) (mvL 97 65 s.data.toList) el ef
        have hbel := hm.out.below
        go_wp2
        go_ret2
        exact ⟨rfl, hbel⟩
  · go_enter Tryd.func73, Tryd.ntmps73
    go_wp2_with (go_at_call 34; ((with_reducible refine (HV.out).mono ?_); rintro e w1 ⟨rfl, hb1⟩; obtain ⟨osA, dA, rfl⟩ := ext_of_below hb1; clear hb1))
    have hst : MRow w (Lib.bytesWorld (ext w osA dA) 5 s) (w.heap.size + osA.size) s.size (byteAt s) := by
      have := MRow.start (W0 := w) (W := ext w osA dA) (by (repeat' (first | (with_reducible exact Below.refl _ _) | (with_reducible assumption) | (with_reducible refine Below.alloc ?_ ?_ _) | (with_reducible refine below_drewN ?_ _) | (with_reducible refine below_drew ?_) | (with_reducible refine below_ext ?_ ?_ _ _) | (with_reducible refine Below.setCell ?_ ?_ _) | (simp; done) | (simp; omega) | omega))) s
      rw [ext_size] at this
      exact this
    have HST := Lib.hid hst
    clear hst
    go_loopw [11] (fun i wr => ∃ k : Nat, k ≤ s.size ∧ i = .int .i64 k ∧ Hid (MRow w wr (w.heap.size + osA.size) s.size (part s 65 97 k))) (fun i _ => s.size - (intOf i).toNat)
    case atStart => exact ⟨0, Nat.zero_le _, rfl, Lib.hid (HST.out.congr (fun j _ => by unfold part; rw [if_neg (by omega)]))⟩
    case round =>
      obtain ⟨k, hk, rfl, hm⟩ := hrel
      by_cases hlt : k < s.size
      · have hc := hm.out.cell k hlt
        have hz := hm.out.free k hlt
        rw [show part s 65 97 k k = byteAt s k by unfold part; rw [if_neg (by omega)]] at hc
        have hx := byteAt_lt s k
        have hstep := fun v (hv : v = mvN 65 97 (byteAt s k)) => (hm.out.store k v hlt).congr (f' := part s 65 97 (k + 1)) (fun j _ => by rw [hv]; exact part_step s 65 97 k j)
        have hsame := fun (hv : byteAt s k = mvN 65 97 (byteAt s k)) => hm.out.congr (f' := part s 65 97 (k + 1)) (fun j _ => by
          have := part_step s 65 97 k j
          rw [← this]
          by_cases e : j = k
          · subst e; rw [if_pos rfl, ← hv]; unfold part; rw [if_neg (by omega)]
          · rw [if_neg e])
        have HS := Lib.hid hstep; have HE := Lib.hid hsame
        obtain ⟨x, hxx⟩ : ∃ x, x = byteAt s k := ⟨_, rfl⟩
        rw [← hxx] at hc hx HS HE
        clear hstep hsame hxx
        by_cases hr : 65 ≤ x ∧ x < 91
        · obtain ⟨r1, r2⟩ := hr
          have r3 : (65 : Int) ≤ (x : Int) := by omega
          have r4 : (x : Int) ≤ 90 := by omega
          have r5 : decide ((x : Int) ≤ 90) = true := by simp; omega
          go_wp2
          go_roundw
          case rel => exact ⟨k + 1, by omega, by go_num, Lib.hid (by
            have h := HS.out (x - 65 + 97) (by unfold mvN; rw [if_pos ⟨r1, r2⟩])
            have e : ((x - 65 + 97 : Nat) : Int) = (x : Int) + (32) := by omega
            rw [e] at h
            exact h)⟩
          case measure => simp [intOf]; omega
        · have hcase : x < 65 ∨ (65 ≤ x ∧ 90 < x) := by omega
          have HM := Lib.hid (HE.out (by unfold mvN; rw [if_neg hr]))
          clear hr
          rcases hcase with h1 | ⟨h1, h2⟩
          · have h1' : (x : Int) < 65 := by omega
            go_wp2
            go_roundw
            case rel => exact ⟨k + 1, by omega, by go_num, HM⟩
            case measure => simp [intOf]; omega
          · have h1' : (65 : Int) ≤ (x : Int) := by omega
            have h2' : (90 : Int) < (x : Int) := by omega
            have r5 : decide ((x : Int) ≤ 90) = false := by simp; omega
            go_wp2
            go_roundw
            case rel => exact ⟨k + 1, by omega, by go_num, HM⟩
            case measure => simp [intOf]; omega
      · obtain rfl : k = s.size := by omega
        obtain ⟨el, ef⟩ := part_end_list s 65 97 (by decide)
        have hcv := fun cap => hm.out.conv (cap := cap) (mvL 65 97 s.data.toList) el ef
        have hbel := hm.out.below
        go_wp2
        go_ret2
        exact ⟨rfl, hbel⟩
end Go.Proofs.YtcfgjhfgjckbbaaDoor
