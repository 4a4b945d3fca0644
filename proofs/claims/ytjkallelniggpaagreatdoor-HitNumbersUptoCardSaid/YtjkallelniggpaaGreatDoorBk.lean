/-
  The names of a context are names, and none stands twice; the fields that a kind uses are allowed.
  The fields that a kind uses are allowed; a whole value is in form: the program's way.
-/
import Derived.Test.YtjkallelniggpaaGreatDoorBj
import Derived.Test.YtjkallelniggpaaGreatDoorDecTwo
import Derived.Test.YtjkallelniggpaaGreatDoorValid
namespace Go.Proofs.YtjkallelniggpaaGreatDoor
open Go.RowKit Go.Maps Go.WideMaps Word Txt
attribute [local go_sem] setCell_drewN cell?_ext frozen?_ext shape?_ext setCell_ext lt_1' ne_1' en_1' le_1' lt_2' ne_2' en_2' le_2' lt_3' ne_3' en_3' le_3' lt_4' ne_4' en_4' le_4' lt_5' ne_5' en_5' le_5' lt_6' ne_6' en_6' le_6' lt_7' ne_7' en_7' le_7' lt_8' ne_8' en_8' le_8' lt_9' ne_9' en_9' le_9' lt_10' ne_10' en_10' le_10' lt_11' ne_11' en_11' le_11' lt_12' ne_12' en_12' le_12'

open Classical in
/-- is it a name? -/
noncomputable def nameB (s : ByteArray) : Bool := decide (IsName s)
open Classical in
/-- are all names, and does none stand twice? -/
noncomputable def distB (ns : List ByteArray) : Bool := ns.all nameB && decide ns.Nodup
theorem name_is (s : ByteArray) (w : World) : Calls Tryz.prog 48 #[.string s] w fun e w' => e = .returned (.bool (nameB s)) ∧ w = w' := by
  unfold nameB
  by_cases h : IsName s
  · simpa [h] using name_yes s h w
  · simpa [h] using name_no s h w
set_option maxRecDepth 100000 in
theorem distinct_nil (w : World) (cap : Nat) (p : Option Addr) :
    Calls Tryz.prog 83 #[.slice p 0 cap] w fun e w' => e = .returned (.bool (distB [])) ∧ Below w.heap.size w w' := by
  have hb : distB [] = true := by simp [distB]
  rw [hb]
  clear hb
  have HP := Lib.hid (fun w => places_nil w cap p)
  have hsz : Maps.size (PM [] 0) = 0 := rfl
  go_enter Tryz.func83, Tryz.ntmps83
  go_wp2
  refine wp_loop_rounds 1 ?_
  rw [rounds_succ]
  go_wp2_with (first
    | (go_at_call 98; (with_reducible refine (HP.out _).mono ?_); rintro e w1 ⟨rfl, hown, hb1⟩)
    | (at_len; refine wpList_len_own _ rfl _ 121 rfl 9 3 Tryz.underlying121 _ _ _ _ rfl hown ?_))
  go_ret
  exact ⟨rfl, hb1⟩
set_option maxRecDepth 100000 in
theorem distinct_row (ns : List ByteArray) (g o cap : Nat) (w : World) (hl : ns.length ≤ 1048576) (hg : g < w.heap.size) (hc : NamesAt w g ns o) (hsz : ∀ x ∈ ns, x.size ≤ 1048576) :
    Calls Tryz.prog 83 #[.slice (some ⟨g, o, none⟩) ns.length cap] w fun e w' => e = .returned (.bool (distB ns)) ∧ Below w.heap.size w w' := by
  have HP := Lib.hid (places_any ns g o cap w hl hg hc hsz)
  obtain ⟨len, hlen⟩ : ∃ len, len = ns.length := ⟨_, rfl⟩
  have HC := Lib.hid (fun i hi => NamesAt.get hc i hi)
  have HL := Lib.hid hlen
  have hin : ((Maps.size (PM ns len) : Int) == (len : Int)) = decide ns.Nodup := by
    have := size_all ns
    rw [hlen]
    by_cases h : Maps.size (PM ns ns.length) = ns.length
    · rw [decide_eq_true (this.1 h), h]; simp
    · rw [decide_eq_false (fun e => h (this.2 e))]; simp; omega
  rw [← hlen] at HP hl ⊢
  clear hc hlen
  go_enter Tryz.func83, Tryz.ntmps83
  go_wp2
  go_loopw [7] (fun i wr => ∃ k : Nat, k ≤ len ∧ i = .int .i64 k ∧ wr = w ∧ (∀ x ∈ ns.take k, nameB x = true)) (fun i _ => len - (intOf i).toNat)
  case atStart => exact ⟨0, Nat.zero_le _, rfl, rfl, by simp⟩
  case round =>
    obtain ⟨k, hk, rfl, rfl, hall0⟩ := hrel
    have hall := Lib.hid hall0
    clear hall0
    by_cases hkl : k < len
    · have hi : (k : Int) < len := by omega
      have hkn : k < ns.length := by have := HL.out; omega
      obtain ⟨s, hs⟩ : ∃ s, s = ns[k] := ⟨_, rfl⟩
      have hcx : wr.cell? ⟨g, o + k, none⟩ = some (.string s) := by rw [hs]; exact HC.out k hkn
      have HN := Lib.hid (name_is s wr)
      have HS := Lib.hid (show ns.take (k + 1) = ns.take k ++ [s] by rw [hs, List.take_add_one, List.getElem?_eq_getElem hkn]; rfl)
      have HM := Lib.hid (show s ∈ ns by rw [hs]; exact List.getElem_mem hkn)
      clear hs hkn hin
      obtain ⟨b, hb⟩ : ∃ b, b = nameB s := ⟨_, rfl⟩
      rw [← hb] at HN
      cases b
      · have HB := Lib.hid (show distB ns = false by unfold distB; rw [show ns.all nameB = false from by rw [List.all_eq_false]; exact ⟨s, HM.out, by rw [← hb]; simp⟩]; rfl)
        clear hb
        go_wp2_with (first
          | (go_at_call 48; ((with_reducible refine (HN.out).mono ?_); rintro e w' ⟨rfl, rfl⟩)))
        go_ret
        exact ⟨by rw [HB.out]; rfl, Below.refl _ _⟩
      · have HB := Lib.hid hb.symm
        clear hb
        go_wp2_with (first
          | (go_at_call 48; ((with_reducible refine (HN.out).mono ?_); rintro e w' ⟨rfl, rfl⟩)))
        go_roundw
        case rel => exact ⟨k + 1, by omega, by go_num, (by first | exact trivial | rfl), fun x hx => by
          rw [HS.out] at hx
          rcases List.mem_append.1 hx with h | h
          · exact hall.out x h
          · simp at h; subst h; exact HB.out⟩
        case measure => simp [intOf]; omega
    · obtain rfl : k = len := by omega
      have hi : ¬ (k : Int) < k := by omega
      have HB := Lib.hid (show distB ns = decide ns.Nodup by
        unfold distB
        rw [show ns.all nameB = true from List.all_eq_true.2 (fun x hx => hall.out x (by rw [HL.out, List.take_length]; exact hx))]
        simp)
      go_wp2_with (first
        | (go_at_call 98; (with_reducible refine HP.out.mono ?_); rintro e w1 ⟨rfl, hown, hb1⟩)
        | (at_len; refine wpList_len_own _ rfl _ 121 rfl 9 3 Tryz.underlying121 _ _ _ _ rfl hown ?_))
      go_ret
      exact ⟨by rw [HB.out]; rfl, hb1⟩
theorem distinct_any (n : Nat) (ns : List ByteArray) (nv : Value) (w : World) (hl : ns.length ≤ 1048576) (hn : NSl n w ns nv) (hsz : ∀ x ∈ ns, x.size ≤ 1048576) :
    Calls Tryz.prog 83 #[nv] w fun e w' => e = .returned (.bool (distB ns)) ∧ Below w.heap.size w w' := by
  rcases hn with ⟨rfl, p, c, rfl⟩ | ⟨g, o, cap, rfl, _, hg, hc⟩
  · exact distinct_nil w c p
  · exact distinct_row ns g o cap w hl hg hc hsz
end Go.Proofs.YtjkallelniggpaaGreatDoor
namespace Go.Proofs.YtjkallelniggpaaGreatDoor
open Go.RowKit Word Txt
attribute [local go_sem] setCell_drewN cell?_ext frozen?_ext shape?_ext setCell_ext lt_1' ne_1' en_1' le_1' lt_2' ne_2' en_2' le_2' lt_3' ne_3' en_3' le_3' lt_4' ne_4' en_4' le_4' lt_5' ne_5' en_5' le_5' lt_6' ne_6' en_6' le_6' lt_7' ne_7' en_7' le_7' lt_8' ne_8' en_8' le_8' lt_9' ne_9' en_9' le_9' lt_10' ne_10' en_10' le_10' lt_11' ne_11' en_11' le_11' lt_12' ne_12' en_12' le_12'

/-- the fields that a kind uses are allowed, once more -/
theorem soundB_is (k : Int) (neg : Bool) (c : Nat) (s : Int) (t : ByteArray) (day : Int) (nl : Nat) (ns : List ByteArray) :
    soundB k neg c s t day nl ns = if k = 2 then formB neg c s else if k = 3 then isText t && decide (t.size ≤ 1000) else if k = 4 then decide (1 ≤ day) && decide (day ≤ 3652059)
      else if k = 6 then decide (ns.length = nl) && distB ns else decide (0 ≤ k) && decide (k ≤ 6) := rfl
set_option maxHeartbeats 4000000 in
theorem sound_any (k : Int) (yes neg : Bool) (c : Nat) (s : Int) (t : ByteArray) (day : Int) (pl : Option Addr) (nl cl : Nat) (n : Nat) (ns : List ByteArray) (nv : Value) (w : World)
    (hc : c < top2) (ht : t.size ≤ 1048576) (hl : ns.length ≤ 1048576) (hn : NSl n w ns nv) (hsz : ∀ x ∈ ns, x.size ≤ 1048576) (hnw : n ≤ w.heap.size) (hT : Tens w) (hU : Tabs w) :
    Calls Tryz.prog 60 #[VC k yes neg c s t day (.slice pl nl cl) nv] w fun e w' =>
      e = .returned (.bool (soundB k neg c s t day nl ns)) ∧ Below w.heap.size w w' := by
  have HD := Lib.hid (fun w' (hb : Below w.heap.size w w') => distinct_any n ns nv w' hl (hn.below (hb.mono hnw)) hsz)
  have HF := Lib.hid (fun w' (hb : Below w.heap.size w w') => form_any neg c s hc w' (hT.below hb))
  have HV := Lib.hid (fun w' (hb : Below w.heap.size w w') => valid_any t (by unfold maxLen; omega) w' (hU.below hb))
  obtain ⟨pn, cn, rfl⟩ : ∃ pn cn, nv = .slice pn ns.length cn := by
    rcases hn with ⟨rfl, p, c, rfl⟩ | ⟨g, o, cap, rfl, _⟩
    · exact ⟨p, c, rfl⟩
    · exact ⟨_, _, rfl⟩
  rw [soundB_is]
  generalize formB neg c s = fb at *
  generalize isText t = tb at *
  generalize distB ns = db at *
  clear hc ht hl hn hsz hnw hT hU
  go_enter Tryz.func60, Tryz.ntmps60
  go_wp2_with (first
    | (go_at_call 20; ((with_reducible refine (HF.out _ (by (repeat' (first | (with_reducible exact Below.refl _ _) | (with_reducible assumption) | (with_reducible refine Below.alloc ?_ ?_ _) | (with_reducible refine below_drewN ?_ _) | (with_reducible refine below_drew ?_) | (with_reducible refine below_ext ?_ ?_ _ _) | (with_reducible refine Below.setCell ?_ ?_ _) | (simp; done) | (simp; omega) | omega)))).mono ?_); rintro e w1 ⟨rfl, hb1⟩; obtain ⟨osA, dA, rfl⟩ := ext_of_below hb1; clear hb1))
    | (go_at_call 82; ((with_reducible refine (HV.out _ (by (repeat' (first | (with_reducible exact Below.refl _ _) | (with_reducible assumption) | (with_reducible refine Below.alloc ?_ ?_ _) | (with_reducible refine below_drewN ?_ _) | (with_reducible refine below_drew ?_) | (with_reducible refine below_ext ?_ ?_ _ _) | (with_reducible refine Below.setCell ?_ ?_ _) | (simp; done) | (simp; omega) | omega)))).mono ?_); rintro e w1 ⟨rfl, hb1⟩; obtain ⟨osB, dB, rfl⟩ := ext_of_below hb1; clear hb1))
    | (go_at_call 83; ((with_reducible refine (HD.out _ (by (repeat' (first | (with_reducible exact Below.refl _ _) | (with_reducible assumption) | (with_reducible refine Below.alloc ?_ ?_ _) | (with_reducible refine below_drewN ?_ _) | (with_reducible refine below_drew ?_) | (with_reducible refine below_ext ?_ ?_ _ _) | (with_reducible refine Below.setCell ?_ ?_ _) | (simp; done) | (simp; omega) | omega)))).mono ?_); rintro e w1 ⟨rfl, hb1⟩; obtain ⟨osC, dC, rfl⟩ := ext_of_below hb1; clear hb1)))
  all_goals
    go_ret
    refine ⟨?_, by (repeat' (first | (with_reducible exact Below.refl _ _) | (with_reducible assumption) | (with_reducible refine Below.alloc ?_ ?_ _) | (with_reducible refine below_drewN ?_ _) | (with_reducible refine below_drew ?_) | (with_reducible refine below_ext ?_ ?_ _ _) | (with_reducible refine Below.setCell ?_ ?_ _) | (simp; done) | (simp; omega) | omega))⟩
    clear HD HF HV
    simp_all <;> (intros; omega)

theorem VSl.shape {n : Nat} {w : World} {l : List V} {lv : Value} (h : VSl n w l lv) : ∃ p c, lv = .slice p l.length c := by
  rcases h with ⟨rfl, p, c, rfl⟩ | ⟨g, o, cap, rfl, _⟩
  · exact ⟨p, c, rfl⟩
  · exact ⟨_, _, rfl⟩
theorem NSl.shape {n : Nat} {w : World} {l : List ByteArray} {lv : Value} (h : NSl n w l lv) : ∃ p c, lv = .slice p l.length c := by
  rcases h with ⟨rfl, p, c, rfl⟩ | ⟨g, o, cap, rfl, _⟩
  · exact ⟨p, c, rfl⟩
  · exact ⟨_, _, rfl⟩
theorem at_mk {n : Nat} {w : World} {k : Int} {yes neg : Bool} {c : Nat} {s : Int} {t : ByteArray} {day : Int} {l : List V} {ns : List ByteArray} {x : Value} (h : (V.mk k yes neg c s t day l ns).At n w x) :
    ∃ lv nv, x = VC k yes neg c s t day lv nv ∧ (c < top2 ∧ t.size ≤ 1048576 ∧ l.length ≤ 1048576 ∧ ns.length ≤ 1048576) ∧ VSl n w l lv ∧ NSl n w ns nv ∧ ∀ x ∈ ns, x.size ≤ 1048576 := by
  unfold V.At at h
  exact h
/-- the i-th of a row, its cells written out -/
theorem RowAt.elem {n : Nat} {w : World} {g : Nat} {l : List V} {o : Nat} (h : RowAt n w g l o) (i : Nat) (hi : i < l.length) : ∃ (k : Int) (yes neg : Bool) (a b : Int) (s : Int) (t : ByteArray) (day : Int) (pl : Option Addr) (nl cl : Nat) (pn : Option Addr) (nn cn : Nat),
    w.cell? ⟨g, o + i * 10, none⟩ = some (.int .i64 k) ∧ w.cell? ⟨g, o + i * 10 + 1, none⟩ = some (.bool yes) ∧ w.cell? ⟨g, o + i * 10 + 2, none⟩ = some (.bool neg) ∧ w.cell? ⟨g, o + i * 10 + 3, none⟩ = some (.int .u64 a) ∧ w.cell? ⟨g, o + i * 10 + 4, none⟩ = some (.int .u64 b) ∧
    w.cell? ⟨g, o + i * 10 + 5, none⟩ = some (.int .i64 s) ∧ w.cell? ⟨g, o + i * 10 + 6, none⟩ = some (.string t) ∧ w.cell? ⟨g, o + i * 10 + 7, none⟩ = some (.int .i64 day) ∧ w.cell? ⟨g, o + i * 10 + 8, none⟩ = some (.slice pl nl cl) ∧ w.cell? ⟨g, o + i * 10 + 9, none⟩ = some (.slice pn nn cn) ∧
    l[i].At n w (.agg #[.int .i64 k, .bool yes, .bool neg, .int .u64 a, .int .u64 b, .int .i64 s, .string t, .int .i64 day, .slice pl nl cl, .slice pn nn cn]) := by
  obtain ⟨x0, x1, x2, x3, x4, x5, x6, x7, x8, x9, h0, h1, h2, h3, h4, h5, h6, h7, h8, h9, hat⟩ := h.get i hi
  obtain ⟨k, yes, neg, c, s, t, day, l', ns, e⟩ : ∃ k yes neg c s t day l' ns, l[i] = V.mk k yes neg c s t day l' ns := by cases l[i]; exact ⟨_, _, _, _, _, _, _, _, _, rfl⟩
  have hat' := hat
  rw [e] at hat'
  obtain ⟨lv, nv, hx, _, hL, hN, _⟩ := at_mk hat'
  obtain ⟨pl, cl, rfl⟩ := hL.shape
  obtain ⟨pn, cn, rfl⟩ := hN.shape
  simp only [Value.agg.injEq, Array.mk.injEq, List.cons.injEq, and_true] at hx
  obtain ⟨rfl, rfl, rfl, rfl, rfl, rfl, rfl, rfl, rfl, rfl⟩ := hx
  exact ⟨_, _, _, _, _, _, _, _, _, _, _, _, _, _, h0, h1, h2, h3, h4, h5, h6, h7, h8, h9, hat⟩
theorem formL_iff : ∀ l : List V, formL l = true ↔ ∀ v ∈ l, v.form = true
  | [] => by unfold formL; simp
  | v :: r => by unfold formL; rw [Bool.and_eq_true, formL_iff r]; simp
/-- the first two questions, once more -/
theorem first_two (k : Int) (yes neg : Bool) (c : Nat) (s : Int) (t : ByteArray) (day : Int) (nl : Nat) (ns : List ByteArray) :
    (blankB (if k = 1 then false else yes) (if k = 2 then false else neg) (if k = 2 then 0 else c) (if k = 2 then 0 else s) (if k = 3 then ⟨#[]⟩ else t) (if k = 4 then 0 else day)
      (if k = 5 ∨ k = 6 then 0 else nl) (if k = 6 then 0 else ns.length) && soundB k neg c s t day nl ns) = (bareB k yes neg c s t day nl ns.length && soundB k neg c s t day nl ns) := by
  by_cases h : 0 ≤ k ∧ k ≤ 6
  · rw [bare_blank k h.1 h.2]
  · have : soundB k neg c s t day nl ns = false := by
      rw [soundB_is, if_neg (by omega), if_neg (by omega), if_neg (by omega), if_neg (by omega)]
      by_cases h0 : 0 ≤ k
      · rw [decide_eq_false (show ¬ k ≤ 6 by omega)]; simp
      · rw [decide_eq_false h0]; simp
    rw [this]; simp
/-- the contract of formed, at a value -/
def FC (v : V) : Prop := ∀ (n : Nat) (w : World) (x : Value), v.At n w x → n ≤ w.heap.size → Tens w → Tabs w →
  Calls Tryz.prog 33 #[x] w fun e w' => e = .returned (.bool v.form) ∧ Below w.heap.size w w'
set_option maxHeartbeats 4000000 in
theorem formed_step (k : Int) (yes neg : Bool) (c : Nat) (s : Int) (t : ByteArray) (day : Int) (l : List V) (ns : List ByteArray) (ih : ∀ v ∈ l, FC v) : FC (.mk k yes neg c s t day l ns) := by
  intro n w x hx hnw hT hU
  obtain ⟨lv, nv, rfl, ⟨hc, ht, hl, hnl⟩, hL, hN, hsz⟩ := at_mk hx
  clear hx
  obtain ⟨pl, cl, rfl⟩ := hL.shape
  have HS := Lib.hid (fun w' (hb : Below w.heap.size w w') => sound_any k yes neg c s t day pl l.length cl n ns nv w' hc ht hnl (hN.below (hb.mono hnw)) hsz (Nat.le_trans hnw hb.size) (hT.below hb) (hU.below hb))
  obtain ⟨pn, cn, rfl⟩ := hN.shape
  have hO := fun w => others_any k yes neg c s t day pl pn l.length cl ns.length cn w
  have hB : ∀ w, Calls Tryz.prog 58 #[oth k yes neg c s t day pl l.length cl pn ns.length cn] w fun e w' => e = .returned (.bool (blankB (if k = 1 then false else yes) (if k = 2 then false else neg) (if k = 2 then 0 else c) (if k = 2 then 0 else s) (if k = 3 then ⟨#[]⟩ else t) (if k = 4 then 0 else day)
      (if k = 5 ∨ k = 6 then 0 else l.length) (if k = 6 then 0 else ns.length))) ∧ Below w.heap.size w w' := fun w => by unfold oth; exact blank_any _ _ _ _ _ _ _ _ _ _ _ _ _ w
  have hF : (V.mk k yes neg c s t day l ns).form = (bareB k yes neg c s t day l.length ns.length && soundB k neg c s t day l.length ns && formL l) := by unfold V.form; rw [Bool.and_assoc]
  rw [← first_two] at hF
  generalize oth k yes neg c s t day pl l.length cl pn ns.length cn = ov at hO hB
  generalize blankB _ _ _ _ _ _ _ _ = bb at hF hB
  generalize soundB k neg c s t day l.length ns = sb at hF HS
  generalize (V.mk k yes neg c s t day l ns).form = fv at hF ⊢
  have HF := Lib.hid hF
  have HO := Lib.hid hO
  have HB := Lib.hid hB
  have HL := Lib.hid (fun w' (hb : Below w.heap.size w w') => hL.below (hb.mono hnw))
  have HX := Lib.hid (fun (i : Nat) (hi : i < l.length) w' (hb : Below w.heap.size w w') (x : Value) (h : l[i].At n w' x) => ih l[i] (List.getElem_mem hi) n w' x h (Nat.le_trans hnw hb.size) (hT.below hb) (hU.below hb))
  clear hF hO hB hc ht hnl hN hsz ih
  obtain ⟨len, hlen⟩ : ∃ len, l.length = len := ⟨_, rfl⟩
  have HLen := Lib.hid hlen
  rw [hlen] at hl HS HO ⊢
  clear hlen
  cases bb
  · have HFF := Lib.hid (show fv = false by rw [HF.out]; rfl)
    go_enter Tryz.func33, Tryz.ntmps33
    go_wp2_with (first
      | (go_at_call 59; ((with_reducible refine (HO.out _).mono ?_); rintro e w1 ⟨rfl, hb1⟩; obtain ⟨osA, dA, rfl⟩ := ext_of_below hb1; clear hb1))
      | (go_at_call 58; ((with_reducible refine (HB.out _).mono ?_); rintro e w1 ⟨rfl, hb1⟩; obtain ⟨osB, dB, rfl⟩ := ext_of_below hb1; clear hb1))
      | (go_at_call 60; ((with_reducible refine (HS.out _ (by (repeat' (first | (with_reducible exact Below.refl _ _) | (with_reducible assumption) | (with_reducible refine Below.alloc ?_ ?_ _) | (with_reducible refine below_drewN ?_ _) | (with_reducible refine below_drew ?_) | (with_reducible refine below_ext ?_ ?_ _ _) | (with_reducible refine Below.setCell ?_ ?_ _) | (simp; done) | (simp; omega) | omega)))).mono ?_); rintro e w1 ⟨rfl, hb1⟩; obtain ⟨osC, dC, rfl⟩ := ext_of_below hb1; clear hb1)))
    go_ret
    exact ⟨by rw [HFF.out]; rfl, by (repeat' (first | (with_reducible exact Below.refl _ _) | (with_reducible assumption) | (with_reducible refine Below.alloc ?_ ?_ _) | (with_reducible refine below_drewN ?_ _) | (with_reducible refine below_drew ?_) | (with_reducible refine below_ext ?_ ?_ _ _) | (with_reducible refine Below.setCell ?_ ?_ _) | (simp; done) | (simp; omega) | omega))⟩
  cases sb
  · have HFF := Lib.hid (show fv = false by rw [HF.out]; rfl)
    go_enter Tryz.func33, Tryz.ntmps33
    go_wp2_with (first
      | (go_at_call 59; ((with_reducible refine (HO.out _).mono ?_); rintro e w1 ⟨rfl, hb1⟩; obtain ⟨osA, dA, rfl⟩ := ext_of_below hb1; clear hb1))
      | (go_at_call 58; ((with_reducible refine (HB.out _).mono ?_); rintro e w1 ⟨rfl, hb1⟩; obtain ⟨osB, dB, rfl⟩ := ext_of_below hb1; clear hb1))
      | (go_at_call 60; ((with_reducible refine (HS.out _ (by (repeat' (first | (with_reducible exact Below.refl _ _) | (with_reducible assumption) | (with_reducible refine Below.alloc ?_ ?_ _) | (with_reducible refine below_drewN ?_ _) | (with_reducible refine below_drew ?_) | (with_reducible refine below_ext ?_ ?_ _ _) | (with_reducible refine Below.setCell ?_ ?_ _) | (simp; done) | (simp; omega) | omega)))).mono ?_); rintro e w1 ⟨rfl, hb1⟩; obtain ⟨osC, dC, rfl⟩ := ext_of_below hb1; clear hb1)))
    go_ret
    exact ⟨by rw [HFF.out]; rfl, by (repeat' (first | (with_reducible exact Below.refl _ _) | (with_reducible assumption) | (with_reducible refine Below.alloc ?_ ?_ _) | (with_reducible refine below_drewN ?_ _) | (with_reducible refine below_drew ?_) | (with_reducible refine below_ext ?_ ?_ _ _) | (with_reducible refine Below.setCell ?_ ?_ _) | (simp; done) | (simp; omega) | omega))⟩
  have HFF := Lib.hid (show fv = formL l by rw [HF.out]; rfl)
  clear HF
  rcases hL with ⟨rfl, hlv⟩ | ⟨g, o, cap, hlv, hgn, hg, hrow⟩
  · have h1 := HFF.out
    unfold formL at h1
    obtain rfl : 0 = len := HLen.out
    clear hlv
    subst h1
    clear HFF
    go_enter Tryz.func33, Tryz.ntmps33
    go_wp2_with (first
      | (go_at_call 59; ((with_reducible refine (HO.out _).mono ?_); rintro e w1 ⟨rfl, hb1⟩; obtain ⟨osA, dA, rfl⟩ := ext_of_below hb1; clear hb1))
      | (go_at_call 58; ((with_reducible refine (HB.out _).mono ?_); rintro e w1 ⟨rfl, hb1⟩; obtain ⟨osB, dB, rfl⟩ := ext_of_below hb1; clear hb1))
      | (go_at_call 60; ((with_reducible refine (HS.out _ (by (repeat' (first | (with_reducible exact Below.refl _ _) | (with_reducible assumption) | (with_reducible refine Below.alloc ?_ ?_ _) | (with_reducible refine below_drewN ?_ _) | (with_reducible refine below_drew ?_) | (with_reducible refine below_ext ?_ ?_ _ _) | (with_reducible refine Below.setCell ?_ ?_ _) | (simp; done) | (simp; omega) | omega)))).mono ?_); rintro e w1 ⟨rfl, hb1⟩; obtain ⟨osC, dC, rfl⟩ := ext_of_below hb1; clear hb1)))
    refine wp_loop_rounds 1 ?_
    rw [rounds_succ]
    go_wp2
    go_ret
    exact ⟨rfl, by (repeat' (first | (with_reducible exact Below.refl _ _) | (with_reducible assumption) | (with_reducible refine Below.alloc ?_ ?_ _) | (with_reducible refine below_drewN ?_ _) | (with_reducible refine below_drew ?_) | (with_reducible refine below_ext ?_ ?_ _ _) | (with_reducible refine Below.setCell ?_ ?_ _) | (simp; done) | (simp; omega) | omega))⟩
  · simp only [Value.slice.injEq] at hlv
    obtain ⟨rfl, -, rfl⟩ := hlv
    have HR := Lib.hid (fun w' (hb : Below w.heap.size w w') => hrow.below (hb.mono hnw) hgn)
    clear hrow
    go_enter Tryz.func33, Tryz.ntmps33
    go_wp2_with (first
      | (go_at_call 59; ((with_reducible refine (HO.out _).mono ?_); rintro e w1 ⟨rfl, hb1⟩; obtain ⟨osA, dA, rfl⟩ := ext_of_below hb1; clear hb1))
      | (go_at_call 58; ((with_reducible refine (HB.out _).mono ?_); rintro e w1 ⟨rfl, hb1⟩; obtain ⟨osB, dB, rfl⟩ := ext_of_below hb1; clear hb1))
      | (go_at_call 60; ((with_reducible refine (HS.out _ (by (repeat' (first | (with_reducible exact Below.refl _ _) | (with_reducible assumption) | (with_reducible refine Below.alloc ?_ ?_ _) | (with_reducible refine below_drewN ?_ _) | (with_reducible refine below_drew ?_) | (with_reducible refine below_ext ?_ ?_ _ _) | (with_reducible refine Below.setCell ?_ ?_ _) | (simp; done) | (simp; omega) | omega)))).mono ?_); rintro e w1 ⟨rfl, hb1⟩; obtain ⟨osC, dC, rfl⟩ := ext_of_below hb1; clear hb1)))
    go_loopw [17] (fun i wr => ∃ m : Nat, m ≤ len ∧ i = .int .i64 m ∧ Below w.heap.size w wr ∧ ∀ v ∈ l.take m, v.form = true) (fun i _ => len - (intOf i).toNat)
    case atStart => exact ⟨0, by omega, rfl, by (repeat' (first | (with_reducible exact Below.refl _ _) | (with_reducible assumption) | (with_reducible refine Below.alloc ?_ ?_ _) | (with_reducible refine below_drewN ?_ _) | (with_reducible refine below_drew ?_) | (with_reducible refine below_ext ?_ ?_ _ _) | (with_reducible refine Below.setCell ?_ ?_ _) | (simp; done) | (simp; omega) | omega)), by simp⟩
    case round =>
      obtain ⟨m, hm, rfl, hbw, hall0⟩ := hrel
      have hall := Lib.hid hall0
      clear hall0
      by_cases hml : m < len
      · have hi : (m : Int) < len := by omega
        have hmn : m < l.length := by have := HLen.out; omega
        obtain ⟨k', yes', neg', a', b', s', t', day', pl', nl', cl', pn', nn', cn', h0, h1, h2, h3, h4, h5, h6, h7, h8, h9, hat⟩ := (HR.out wr hbw).elem m hmn
        have HE := Lib.hid (fun w' (hb2 : Below wr.heap.size wr w') => HX.out m hmn w' (hbw.trans (hb2.mono hbw.size)) _ (hat.below (hb2.mono (Nat.le_trans hnw hbw.size))))
        obtain ⟨u, hu⟩ : ∃ u, u = l[m].form := ⟨_, rfl⟩
        rw [← hu] at HE
        have HU := Lib.hid hu
        have HM := Lib.hid (List.getElem_mem hmn)
        have HT := Lib.hid (show l.take (m + 1) = l.take m ++ [l[m]] by rw [List.take_add_one, List.getElem?_eq_getElem hmn]; rfl)
        have HBW := Lib.hid hbw
        have hgr : g < wr.heap.size := Nat.lt_of_lt_of_le hg hbw.size
        have hsw := hbw.size
        clear hat hu hbw HX HR HS HB HO HL
        cases u
        · have HB := Lib.hid (show fv = false by
            rw [HFF.out]
            cases hq : formL l
            · rfl
            · rw [(formL_iff l).1 hq _ HM.out] at HU; cases HU.out)
          go_wp2_with (first
            | (go_at_call 33; ((with_reducible refine (HE.out _ (by (repeat' (first | (with_reducible exact Below.refl _ _) | (with_reducible assumption) | (with_reducible refine Below.alloc ?_ ?_ _) | (with_reducible refine below_drewN ?_ _) | (with_reducible refine below_drew ?_) | (with_reducible refine below_ext ?_ ?_ _ _) | (with_reducible refine Below.setCell ?_ ?_ _) | (simp; done) | (simp; omega) | omega)))).mono ?_); rintro e w1 ⟨rfl, hb1⟩; obtain ⟨osA, dA, rfl⟩ := ext_of_below hb1; clear hb1)))
          go_ret
          exact ⟨by rw [HB.out]; rfl, HBW.out.trans (by (repeat' (first | (with_reducible exact Below.refl _ _) | (with_reducible assumption) | (with_reducible refine Below.alloc ?_ ?_ _) | (with_reducible refine below_drewN ?_ _) | (with_reducible refine below_drew ?_) | (with_reducible refine below_ext ?_ ?_ _ _) | (with_reducible refine Below.setCell ?_ ?_ _) | (simp; done) | (simp; omega) | omega)))⟩
        · go_wp2_with (first
            | (go_at_call 33; ((with_reducible refine (HE.out _ (by (repeat' (first | (with_reducible exact Below.refl _ _) | (with_reducible assumption) | (with_reducible refine Below.alloc ?_ ?_ _) | (with_reducible refine below_drewN ?_ _) | (with_reducible refine below_drew ?_) | (with_reducible refine below_ext ?_ ?_ _ _) | (with_reducible refine Below.setCell ?_ ?_ _) | (simp; done) | (simp; omega) | omega)))).mono ?_); rintro e w1 ⟨rfl, hb1⟩; obtain ⟨osA, dA, rfl⟩ := ext_of_below hb1; clear hb1)))
          go_roundw
          case rel => exact ⟨m + 1, by omega, by go_num, HBW.out.trans (by (repeat' (first | (with_reducible exact Below.refl _ _) | (with_reducible assumption) | (with_reducible refine Below.alloc ?_ ?_ _) | (with_reducible refine below_drewN ?_ _) | (with_reducible refine below_drew ?_) | (with_reducible refine below_ext ?_ ?_ _ _) | (with_reducible refine Below.setCell ?_ ?_ _) | (simp; done) | (simp; omega) | omega))), fun v hv => by
            rw [HT.out] at hv
            rcases List.mem_append.1 hv with h | h
            · exact hall.out v h
            · simp at h; subst h; exact HU.out.symm⟩
          case measure => simp [intOf]; omega
      · obtain rfl : m = len := by omega
        have hi : ¬ (m : Int) < m := by omega
        have HB := Lib.hid (show fv = true by
          rw [HFF.out, formL_iff]
          intro v hv
          exact hall.out v (by rw [← HLen.out, List.take_length]; exact hv))
        go_wp2
        go_ret
        exact ⟨by rw [HB.out]; rfl, by (repeat' (first | (with_reducible exact Below.refl _ _) | (with_reducible assumption) | (with_reducible refine Below.alloc ?_ ?_ _) | (with_reducible refine below_drewN ?_ _) | (with_reducible refine below_drew ?_) | (with_reducible refine below_ext ?_ ?_ _ _) | (with_reducible refine Below.setCell ?_ ?_ _) | (simp; done) | (simp; omega) | omega))⟩
mutual
theorem formed_any : ∀ v : V, FC v
  | .mk k yes neg c s t day l ns => formed_step k yes neg c s t day l ns (formed_all l)
theorem formed_all : ∀ (l : List V) (v : V), v ∈ l → FC v
  | [], _, h => by cases h
  | u :: r, v, h => (List.mem_cons.1 h).elim (fun e => e ▸ formed_any u) (fun h => formed_all r v h)
end
end Go.Proofs.YtjkallelniggpaaGreatDoor
