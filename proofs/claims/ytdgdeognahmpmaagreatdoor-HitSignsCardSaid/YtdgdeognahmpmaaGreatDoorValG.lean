/-
  A whole value is in form: the document's way.
-/
import Derived.Test.YtdgdeognahmpmaaGreatDoorValF
import Derived.Test.YtdgdeognahmpmaaGreatDoorDocOne
import Derived.Test.YtdgdeognahmpmaaGreatDoorBb
import Derived.Lib.SlicesS
namespace Go.Proofs.YtdgdeognahmpmaaGreatDoor
open Go.RowKit Word Txt
attribute [local go_sem] setCell_drewN cell?_ext frozen?_ext shape?_ext setCell_ext lt_1' ne_1' en_1' le_1' lt_2' ne_2' en_2' le_2' lt_3' ne_3' en_3' le_3' lt_4' ne_4' en_4' le_4' lt_5' ne_5' en_5' le_5' lt_6' ne_6' en_6' le_6' lt_7' ne_7' en_7' le_7' lt_8' ne_8' en_8' le_8' lt_9' ne_9' en_9' le_9' lt_10' ne_10' en_10' le_10' lt_11' ne_11' en_11' le_11' lt_12' ne_12' en_12' le_12'

/-- what the document asks of the fields of a kind that are one thing -/
def ok3B (k : Int) (neg : Bool) (c : Nat) (s : Int) (t : ByteArray) (day : Int) : Bool :=
  if k = 2 then formB neg c s else if k = 3 then isText t && decide (t.size ≤ 1000) else if k = 4 then decide (1 ≤ day) && decide (day ≤ 3652059) else true
theorem form_doc (k : Int) (yes neg : Bool) (c : Nat) (s : Int) (t : ByteArray) (day : Int) (l : List V) (ns : List ByteArray) :
    (V.mk k yes neg c s t day l ns).form = ((decide (0 ≤ k) && decide (k ≤ 6)) && (bareB k yes neg c s t day l.length ns.length && (ok3B k neg c s t day && ((k != 6 || decide (ns.length = l.length)) && (distB ns && formL l))))) := by
  unfold V.form
  rw [soundB_is]
  unfold ok3B
  cases hb : bareB k yes neg c s t day l.length ns.length
  · simp
  have hn : k ≠ 6 → distB ns = true := fun h => by
    unfold bareB at hb
    simp only [Bool.and_eq_true, Bool.or_eq_true, decide_eq_true_eq, beq_iff_eq] at hb
    have h0 : ns.length = 0 := by rcases hb.2.2.2.2.2 with h1 | h1; exact absurd h1 h; exact h1
    rw [List.length_eq_zero_iff.1 h0]
    simp [distB]
  by_cases h2 : k = 2
  · subst h2; rw [hn (by omega)]; simp
  by_cases h3 : k = 3
  · subst h3; rw [hn (by omega)]; simp
  by_cases h4 : k = 4
  · subst h4; rw [hn (by omega)]; simp
  by_cases h6 : k = 6
  · subst h6; simp [Bool.and_assoc]
  rw [if_neg h2, if_neg h3, if_neg h4, if_neg h6, if_neg h2, if_neg h3, if_neg h4, hn h6]
  have h6' : (k == 6) = false := beq_eq_false_iff_ne.2 h6
  simp [h6', bne]
theorem castNe (a b : Nat) : ((a : Int) != (b : Int)) = !decide (a = b) := by by_cases h : a = b <;> simp [h, bne]; omega
/-- the first m names are names, and none stands twice -/
def NOK (ns : List ByteArray) (m : Nat) : Prop := (∀ x ∈ ns.take m, nameB x = true) ∧ (ns.take m).Nodup
/-- s is none of the first q -/
def NEQ (ns : List ByteArray) (s : ByteArray) (q : Nat) : Prop := ∀ x ∈ ns.take q, x ≠ s
theorem takeSnoc {α : Type} (l : List α) (m : Nat) (h : m < l.length) : l.take (m + 1) = l.take m ++ [l[m]] := by rw [List.take_add_one, List.getElem?_eq_getElem h]; rfl
theorem NOK.step {ns : List ByteArray} {m : Nat} (h : NOK ns m) (hm : m < ns.length) (h1 : nameB ns[m] = true) (h2 : NEQ ns ns[m] m) : NOK ns (m + 1) := by
  unfold NOK
  rw [takeSnoc ns m hm]
  refine ⟨fun x hx => ?_, List.nodup_append.2 ⟨h.2, by simp, fun a ha b hb e => ?_⟩⟩
  · rcases List.mem_append.1 hx with h3 | h3
    · exact h.1 x h3
    · simp at h3; subst h3; exact h1
  · simp at hb; subst hb e; exact h2 _ ha rfl
theorem NOK.all {ns : List ByteArray} (h : NOK ns ns.length) : distB ns = true := by
  unfold NOK at h
  rw [List.take_length] at h
  unfold distB
  rw [List.all_eq_true.2 h.1, decide_eq_true h.2]; rfl
theorem distB_bad {ns : List ByteArray} {x : ByteArray} (hx : x ∈ ns) (h : nameB x = false) : distB ns = false := by
  unfold distB
  rw [show ns.all nameB = false from by rw [List.all_eq_false]; exact ⟨x, hx, by rw [h]; simp⟩]; rfl
theorem distB_twice {ns : List ByteArray} {q m : Nat} (hq : q < m) (hm : m < ns.length) (h : ns[q]'(by omega) = ns[m]) : distB ns = false := by
  unfold distB
  rw [decide_eq_false (fun hn => by exact List.pairwise_iff_getElem.1 hn q m (by omega) hm hq h)]; simp
theorem rname_is (s : ByteArray) (w : World) : Calls Tryz.prog 41 #[.string s] w fun e w' => e = .returned (.bool (nameB s)) ∧ w = w' := by
  unfold nameB
  by_cases h : IsName s
  · simpa [h] using rname_yes s h w
  · simpa [h] using rname_no s h w
theorem is_any (n : Int) (w : World) : Calls Tryz.prog 114 #[.int .i64 n] w fun e w' => e = .returned (.bool (decide (1 ≤ n) && decide (n ≤ 3652059))) ∧ w = w' := by
  by_cases h1 : 1 ≤ n
  · by_cases h2 : n ≤ 3652059
    · simpa [h1, h2] using is_ref n h1 h2 w
    · simpa [h1, h2] using is_no n (by omega) w
  · simpa [h1] using is_no n (by omega) w
/-- the contract of the document's form, at a value -/
def GC (v : V) : Prop := ∀ (n : Nat) (w : World) (x : Value), v.At n w x → n ≤ w.heap.size →
  Calls Tryz.prog 80 #[x] w fun e w' => e = .returned (.bool v.form) ∧ Below w.heap.size w w'
set_option maxHeartbeats 8000000 in
set_option maxRecDepth 100000 in
theorem rform_step (k : Int) (yes neg : Bool) (c : Nat) (s : Int) (t : ByteArray) (day : Int) (l : List V) (ns : List ByteArray) (ih : ∀ v ∈ l, GC v) : GC (.mk k yes neg c s t day l ns) := by
  intro n w x hx hnw
  obtain ⟨lv, nv, rfl, ⟨hc, ht, hl, hnl⟩, hL, hN, hsz⟩ := at_mk hx
  obtain ⟨pl, cl, rfl⟩ := hL.shape
  obtain ⟨pn, cn, rfl⟩ := hN.shape
  have hF := form_doc k yes neg c s t day l ns
  have HB := Lib.hid (fun w => bare_any k yes neg c s t day pl pn l.length cl ns.length cn w)
  have HD := Lib.hid (fun w => rform_any neg c s hc w)
  have HV := Lib.hid (fun w => rvalid_any t ht w)
  have HI := Lib.hid (fun w => is_any day w)
  have HX := Lib.hid (fun (i : Nat) (hi : i < l.length) w' (hb : Below w.heap.size w w') (x : Value) (h : l[i].At n w' x) => ih l[i] (List.getElem_mem hi) n w' x h (Nat.le_trans hnw hb.size))
  have HL := Lib.hid (fun w' (hb : Below w.heap.size w w') => hL.below (hb.mono hnw))
  have HN := Lib.hid (fun w' (hb : Below w.heap.size w w') => hN.below (hb.mono hnw))
  have HZ := Lib.hid hsz
  clear hx hc ht hL hN hsz ih
  generalize (V.mk k yes neg c s t day l ns).form = fv at hF ⊢
  generalize bareB k yes neg c s t day l.length ns.length = bb at hF HB
  obtain ⟨bx, hbx⟩ : ∃ bx, bx = Obj.cells #[.int .i64 k, .bool yes, .bool neg, .int .u64 (Word.hi c : Int), .int .u64 (lo c : Int), .int .i64 s, .string t, .int .i64 day, .slice pl l.length cl, .slice pn ns.length cn] 34 := ⟨_, rfl⟩
  by_cases h0 : k < 0
  · have HFF := Lib.hid (show fv = false by rw [hF, decide_eq_false (by omega)]; rfl)
    clear hF hbx
    go_enter Tryz.func80, Tryz.ntmps80
    go_wp2
    go_ret
    exact ⟨by rw [HFF.out]; rfl, by (repeat' (first | (with_reducible exact Below.refl _ _) | (with_reducible assumption) | (with_reducible refine Below.alloc ?_ ?_ _) | (with_reducible refine below_drewN ?_ _) | (with_reducible refine below_drew ?_) | (with_reducible refine below_ext ?_ ?_ _ _) | (with_reducible refine Below.setCell ?_ ?_ _) | (simp; done) | (simp; omega) | omega))⟩
  by_cases h6 : 6 < k
  · have HFF := Lib.hid (show fv = false by rw [hF, decide_eq_false (show ¬ k ≤ 6 by omega)]; simp)
    clear hF hbx
    go_enter Tryz.func80, Tryz.ntmps80
    go_wp2
    go_ret
    exact ⟨by rw [HFF.out]; rfl, by (repeat' (first | (with_reducible exact Below.refl _ _) | (with_reducible assumption) | (with_reducible refine Below.alloc ?_ ?_ _) | (with_reducible refine below_drewN ?_ _) | (with_reducible refine below_drew ?_) | (with_reducible refine below_ext ?_ ?_ _ _) | (with_reducible refine Below.setCell ?_ ?_ _) | (simp; done) | (simp; omega) | omega))⟩
  rw [decide_eq_true (show 0 ≤ k by omega), decide_eq_true (show k ≤ 6 by omega)] at hF
  cases bb
  · have HFF := Lib.hid (show fv = false by rw [hF]; rfl)
    clear hF hbx
    go_enter Tryz.func80, Tryz.ntmps80
    go_wp2_with (first
      | (go_at_call 111; ((with_reducible refine (HB.out _).mono ?_); rintro e w1 ⟨rfl, hb1⟩; obtain ⟨osA, dA, rfl⟩ := ext_of_below hb1; clear hb1)))
    go_ret
    exact ⟨by rw [HFF.out]; rfl, by (repeat' (first | (with_reducible exact Below.refl _ _) | (with_reducible assumption) | (with_reducible refine Below.alloc ?_ ?_ _) | (with_reducible refine below_drewN ?_ _) | (with_reducible refine below_drew ?_) | (with_reducible refine below_ext ?_ ?_ _ _) | (with_reducible refine Below.setCell ?_ ?_ _) | (simp; done) | (simp; omega) | omega))⟩
  have HF := Lib.hid (show fv = (ok3B k neg c s t day && ((k != 6 || decide (ns.length = l.length)) && (distB ns && formL l))) by rw [hF]; rfl)
  clear hF
  go_enter Tryz.func80, Tryz.ntmps80
  go_upto_region 3 with (first
    | (go_at_call 111; ((with_reducible refine (HB.out _).mono ?_); rintro e w1 ⟨rfl, hb1⟩; obtain ⟨osA, dA, rfl⟩ := ext_of_below hb1; clear hb1)))
  rw [← hbx]
  go_cut [55] (fun sx wx => sx = .bool (!ok3B k neg c s t day) ∧ Below (w.alloc bx).heap.size (w.alloc bx) wx)
  case first =>
    subst hbx
    by_cases k2 : k = 2
    · subst k2
      go_wp2_with (first
        | (go_at_call 112; ((with_reducible refine (HD.out _).mono ?_); rintro e w1 ⟨rfl, hb1⟩; obtain ⟨osB, dB, rfl⟩ := ext_of_below hb1; clear hb1)))
      all_goals
        go_meet
        refine ⟨?_, by (repeat' (first | (with_reducible exact Below.refl _ _) | (with_reducible assumption) | (with_reducible refine Below.alloc ?_ ?_ _) | (with_reducible refine below_drewN ?_ _) | (with_reducible refine below_drew ?_) | (with_reducible refine below_ext ?_ ?_ _ _) | (with_reducible refine Below.setCell ?_ ?_ _) | (simp; done) | (simp; omega) | omega))⟩
        simp only [ok3B]
        simp_all <;> (intros; omega)
    by_cases k3 : k = 3
    · subst k3
      by_cases hz : t.size ≤ 1000
      · have hz1 : ¬ (1000 : Int) < t.size := by omega
        go_wp2_with (first
          | (go_at_call 113; ((with_reducible refine (HV.out _).mono ?_); rintro e w1 ⟨rfl, hb1⟩; obtain ⟨osB, dB, rfl⟩ := ext_of_below hb1; clear hb1)))
        all_goals
          go_meet
          refine ⟨?_, by (repeat' (first | (with_reducible exact Below.refl _ _) | (with_reducible assumption) | (with_reducible refine Below.alloc ?_ ?_ _) | (with_reducible refine below_drewN ?_ _) | (with_reducible refine below_drew ?_) | (with_reducible refine below_ext ?_ ?_ _ _) | (with_reducible refine Below.setCell ?_ ?_ _) | (simp; done) | (simp; omega) | omega))⟩
          simp only [ok3B]
          simp_all
      · have hz1 : (1000 : Int) < t.size := by omega
        go_wp2_with (first
          | (go_at_call 113; ((with_reducible refine (HV.out _).mono ?_); rintro e w1 ⟨rfl, hb1⟩; obtain ⟨osB, dB, rfl⟩ := ext_of_below hb1; clear hb1)))
        all_goals
          go_meet
          refine ⟨?_, by (repeat' (first | (with_reducible exact Below.refl _ _) | (with_reducible assumption) | (with_reducible refine Below.alloc ?_ ?_ _) | (with_reducible refine below_drewN ?_ _) | (with_reducible refine below_drew ?_) | (with_reducible refine below_ext ?_ ?_ _ _) | (with_reducible refine Below.setCell ?_ ?_ _) | (simp; done) | (simp; omega) | omega))⟩
          simp only [ok3B]
          simp_all
    by_cases k4 : k = 4
    · subst k4
      go_wp2_with (first
        | (go_at_call 114; ((with_reducible refine (HI.out _).mono ?_); rintro e w' ⟨rfl, rfl⟩)))
      all_goals
        go_meet
        refine ⟨?_, by (repeat' (first | (with_reducible exact Below.refl _ _) | (with_reducible assumption) | (with_reducible refine Below.alloc ?_ ?_ _) | (with_reducible refine below_drewN ?_ _) | (with_reducible refine below_drew ?_) | (with_reducible refine below_ext ?_ ?_ _ _) | (with_reducible refine Below.setCell ?_ ?_ _) | (simp; done) | (simp; omega) | omega))⟩
        simp only [ok3B]
        simp_all <;> (intros; omega)
    go_wp2
    go_meet
    refine ⟨?_, by (repeat' (first | (with_reducible exact Below.refl _ _) | (with_reducible assumption) | (with_reducible refine Below.alloc ?_ ?_ _) | (with_reducible refine below_drewN ?_ _) | (with_reducible refine below_drew ?_) | (with_reducible refine below_ext ?_ ?_ _ _) | (with_reducible refine Below.setCell ?_ ?_ _) | (simp; done) | (simp; omega) | omega))⟩
    simp only [ok3B]
    simp_all
  case rest =>
    obtain ⟨rfl, hbw⟩ := hcut
    obtain ⟨os1, d1, rfl⟩ := ext_of_below hbw
    have hbW : Below w.heap.size w (ext (w.alloc bx) os1 d1) := below_ext (Below.alloc (Below.refl _ _) (Nat.le_refl _) _) (by simp) _ _
    have HBW := Lib.hid hbW
    clear hbw hbW
    obtain ⟨o3, ho3⟩ : ∃ o3, o3 = ok3B k neg c s t day := ⟨_, rfl⟩
    rw [← ho3] at HF ⊢
    clear ho3 HB HD HV HI
    cases o3
    · have HFF := Lib.hid (show fv = false by rw [HF.out]; rfl)
      clear HF
      subst hbx
      go_wp2
      go_ret
      exact ⟨by rw [HFF.out]; rfl, by (repeat' (first | (with_reducible exact Below.refl _ _) | (with_reducible assumption) | (with_reducible refine Below.alloc ?_ ?_ _) | (with_reducible refine below_drewN ?_ _) | (with_reducible refine below_drew ?_) | (with_reducible refine below_ext ?_ ?_ _ _) | (with_reducible refine Below.setCell ?_ ?_ _) | (simp; done) | (simp; omega) | omega))⟩
    go_upto_region 5 with fail
    go_cut [67] (fun sx wx => sx = .bool (!(k != 6 || decide (ns.length = l.length))) ∧ wx = ext (w.alloc bx) os1 d1)
    case first =>
      subst hbx
      by_cases k6 : k = 6
      · subst k6
        go_wp2
        all_goals
          go_meet
          refine ⟨?_, rfl⟩
          simp_all [castNe]
      · have k6' : (k == 6) = false := beq_eq_false_iff_ne.2 k6
        go_wp2
        go_meet
        refine ⟨?_, rfl⟩
        simp [bne, k6']
    case rest =>
      obtain ⟨rfl, rfl⟩ := hcut
      obtain ⟨o4, ho4⟩ : ∃ o4, o4 = (k != 6 || decide (ns.length = l.length)) := ⟨_, rfl⟩
      rw [← ho4] at HF ⊢
      clear ho4
      cases o4
      · have HFF := Lib.hid (show fv = false by rw [HF.out]; rfl)
        clear HF
        subst hbx
        go_wp2
        go_ret
        exact ⟨by rw [HFF.out]; rfl, by (repeat' (first | (with_reducible exact Below.refl _ _) | (with_reducible assumption) | (with_reducible refine Below.alloc ?_ ?_ _) | (with_reducible refine below_drewN ?_ _) | (with_reducible refine below_drew ?_) | (with_reducible refine below_ext ?_ ?_ _ _) | (with_reducible refine Below.setCell ?_ ?_ _) | (simp; done) | (simp; omega) | omega))⟩
      have HF2 := Lib.hid (show fv = (distB ns && formL l) by rw [HF.out]; rfl)
      clear HF
      obtain ⟨nn, hnn⟩ : ∃ nn, ns.length = nn := ⟨_, rfl⟩
      have HNN := Lib.hid hnn
      obtain ⟨len, hlen⟩ : ∃ len, l.length = len := ⟨_, rfl⟩
      have HLen := Lib.hid hlen
      rw [hnn, hlen] at hbx
      rw [hnn] at hnl
      rw [hlen] at hl
      rw [hnn] at HN
      rw [hlen] at HL
      rw [hnn, hlen]
      clear hnn hlen
      go_wp2
      go_loopw [3] (fun i wr => ∃ m d' : Nat, m ≤ nn ∧ i = .int .i64 m ∧ wr = ext (w.alloc bx) os1 d' ∧ NOK ns m) (fun i _ => nn - (intOf i).toNat)
      case atStart => exact ⟨0, d1, by omega, rfl, rfl, by unfold NOK; simp⟩
      case round =>
        obtain ⟨m, d2, hm, rfl, rfl, hok0⟩ := hrel
        have hok := Lib.hid hok0
        clear hok0
        by_cases hmn : m < nn
        · have hi : (m : Int) < nn := by omega
          have hml : m < ns.length := by have := HNN.out; omega
          obtain ⟨g, o, rfl, hg, hrow⟩ : ∃ g o, pn = some ⟨g, o, none⟩ ∧ g < w.heap.size ∧ NamesAt w g ns o := by
            rcases HN.out w (Below.refl _ _) with ⟨h, _⟩ | ⟨g, o, cap, h, _, hg, hr⟩
            · rw [h] at hml; simp at hml
            · simp only [Value.slice.injEq] at h
              exact ⟨g, o, h.1, hg, hr⟩
          have HC := Lib.hid (fun i hi => NamesAt.get hrow i hi)
          obtain ⟨x, hx⟩ : ∃ x, x = ns[m] := ⟨_, rfl⟩
          have HXM := Lib.hid hx
          have hcx : w.cell? ⟨g, o + m, none⟩ = some (.string x) := by rw [hx]; exact HC.out m hml
          have HR := Lib.hid (fun w => rname_is x w)
          obtain ⟨u, hu⟩ : ∃ u, u = nameB x := ⟨_, rfl⟩
          rw [← hu] at HR
          have HU := Lib.hid hu
          clear hx hu hrow
          cases u
          · have HFF := Lib.hid (show fv = false by rw [HF2.out, distB_bad (x := x) (by rw [HXM.out]; exact List.getElem_mem hml) HU.out.symm]; rfl)
            subst hbx
            go_wp2_with (first
              | (go_at_call 41; ((with_reducible refine (HR.out _).mono ?_); rintro e w' ⟨rfl, rfl⟩)))
            go_ret
            exact ⟨by rw [HFF.out]; rfl, by (repeat' (first | (with_reducible exact Below.refl _ _) | (with_reducible assumption) | (with_reducible refine Below.alloc ?_ ?_ _) | (with_reducible refine below_drewN ?_ _) | (with_reducible refine below_drew ?_) | (with_reducible refine below_ext ?_ ?_ _ _) | (with_reducible refine Below.setCell ?_ ?_ _) | (simp; done) | (simp; omega) | omega))⟩
          · subst hbx
            go_wp2_with (first
              | (go_at_call 41; ((with_reducible refine (HR.out _).mono ?_); rintro e w' ⟨rfl, rfl⟩)))
            go_loopw [4] (fun j wr => ∃ q d' : Nat, q ≤ m ∧ j = .int .i64 q ∧ wr = ext (w.alloc (.cells #[.int .i64 k, .bool yes, .bool neg, .int .u64 (Word.hi c : Int), .int .u64 (lo c : Int), .int .i64 s, .string t, .int .i64 day, .slice pl len cl, .slice (some ⟨g, o, none⟩) nn cn] 34)) os1 d' ∧ NEQ ns x q) (fun j _ => m - (intOf j).toNat)
            case atStart => exact ⟨0, d2, by omega, rfl, rfl, by unfold NEQ; simp⟩
            case round =>
              obtain ⟨q, d3, hq, rfl, rfl, hneq0⟩ := hrel
              have hneq := Lib.hid hneq0
              clear hneq0
              by_cases hqm : q < m
              · have hi2 : (q : Int) < m := by omega
                have hql : q < ns.length := by omega
                have hi3 : (q : Int) < nn := by omega
                obtain ⟨y, hy⟩ : ∃ y, y = ns[q] := ⟨_, rfl⟩
                have hcy : w.cell? ⟨g, o + q, none⟩ = some (.string y) := by rw [hy]; exact HC.out q hql
                have HY := Lib.hid hy
                clear hy
                obtain ⟨v, hv⟩ : ∃ v, (y.toList == x.toList) = v := ⟨_, rfl⟩
                have HV := Lib.hid hv
                cases v
                · go_wp2
                  go_region
                  go_wp2
                  go_roundw
                  case rel => exact ⟨q + 1, d3 + 1, by omega, by go_num, rfl, by
                    unfold NEQ
                    rw [takeSnoc ns q hql]
                    intro z hz
                    rcases List.mem_append.1 hz with h | h
                    · exact hneq.out z h
                    · simp at h; rw [h, ← HY.out]; exact (Lib.bytes_beq_false_iff _ _).1 HV.out⟩
                  case measure => simp [intOf]; omega
                · have HFF := Lib.hid (show fv = false by rw [HF2.out, distB_twice hqm hml (by rw [← HY.out, ← HXM.out]; exact (Lib.bytes_beq_iff _ _).1 HV.out)]; rfl)
                  go_wp2
                  go_region
                  go_wp2
                  go_ret
                  exact ⟨by rw [HFF.out]; rfl, by (repeat' (first | (with_reducible exact Below.refl _ _) | (with_reducible assumption) | (with_reducible refine Below.alloc ?_ ?_ _) | (with_reducible refine below_drewN ?_ _) | (with_reducible refine below_drew ?_) | (with_reducible refine below_ext ?_ ?_ _ _) | (with_reducible refine Below.setCell ?_ ?_ _) | (simp; done) | (simp; omega) | omega))⟩
              · obtain rfl : q = m := by omega
                have hi2 : ¬ (q : Int) < q := by omega
                go_wp2
                go_roundw
                case rel => exact ⟨q + 1, by omega, by go_num, ⟨d3, rfl⟩, hok.out.step hml (by rw [← HXM.out]; exact HU.out.symm) (by rw [← HXM.out]; exact hneq.out)⟩
                case measure => simp [intOf]; omega
        · obtain rfl : m = nn := by omega
          have hi : ¬ (m : Int) < m := by omega
          have HF3 := Lib.hid (show fv = formL l by rw [HF2.out, (show distB ns = true from by have h := hok.out; rw [← HNN.out] at h; exact h.all)]; rfl)
          clear HF2 hok HNN HN HZ
          rcases HL.out w (Below.refl _ _) with ⟨h1, h2⟩ | ⟨g, o, cap, hlv, hgn, hg, hrow⟩
          · obtain ⟨p', c', h2⟩ := h2
            simp only [Value.slice.injEq] at h2
            obtain ⟨-, hq, -⟩ := h2
            subst hq
            have HFF := Lib.hid (show fv = true by rw [HF3.out, h1]; simp [formL])
            subst hbx
            clear h1
            go_wp2
            refine wp_loop_rounds 1 ?_
            rw [rounds_succ]
            go_wp2
            go_ret
            exact ⟨by rw [HFF.out]; rfl, by (repeat' (first | (with_reducible exact Below.refl _ _) | (with_reducible assumption) | (with_reducible refine Below.alloc ?_ ?_ _) | (with_reducible refine below_drewN ?_ _) | (with_reducible refine below_drew ?_) | (with_reducible refine below_ext ?_ ?_ _ _) | (with_reducible refine Below.setCell ?_ ?_ _) | (simp; done) | (simp; omega) | omega))⟩
          · simp only [Value.slice.injEq] at hlv
            obtain ⟨rfl, -, rfl⟩ := hlv
            have HR := Lib.hid (fun w' (hb : Below w.heap.size w w') => hrow.below (hb.mono hnw) hgn)
            subst hbx
            clear hrow HL
            go_wp2
            go_loopw [5] (fun i wr => ∃ q : Nat, q ≤ len ∧ i = .int .i64 q ∧ Below (w.alloc (.cells #[.int .i64 k, .bool yes, .bool neg, .int .u64 (Word.hi c : Int), .int .u64 (lo c : Int), .int .i64 s, .string t, .int .i64 day, .slice (some ⟨g, o, none⟩) len cl, .slice pn m cn] 34)).heap.size (w.alloc (.cells #[.int .i64 k, .bool yes, .bool neg, .int .u64 (Word.hi c : Int), .int .u64 (lo c : Int), .int .i64 s, .string t, .int .i64 day, .slice (some ⟨g, o, none⟩) len cl, .slice pn m cn] 34)) wr ∧ ∀ v ∈ l.take q, v.form = true) (fun i _ => len - (intOf i).toNat)
            case atStart => exact ⟨0, by omega, rfl, by (repeat' (first | (with_reducible exact Below.refl _ _) | (with_reducible assumption) | (with_reducible refine Below.alloc ?_ ?_ _) | (with_reducible refine below_drewN ?_ _) | (with_reducible refine below_drew ?_) | (with_reducible refine below_ext ?_ ?_ _ _) | (with_reducible refine Below.setCell ?_ ?_ _) | (simp; done) | (simp; omega) | omega)), by simp⟩
            case round =>
              obtain ⟨q, hq, rfl, hbw, hall0⟩ := hrel
              have hall := Lib.hid hall0
              clear hall0
              obtain ⟨osX, dX, rfl⟩ := ext_of_below hbw
              have hb : Below w.heap.size w (ext (w.alloc (.cells #[.int .i64 k, .bool yes, .bool neg, .int .u64 (Word.hi c : Int), .int .u64 (lo c : Int), .int .i64 s, .string t, .int .i64 day, .slice (some ⟨g, o, none⟩) len cl, .slice pn m cn] 34)) osX dX) := by (repeat' (first | (with_reducible exact Below.refl _ _) | (with_reducible assumption) | (with_reducible refine Below.alloc ?_ ?_ _) | (with_reducible refine below_drewN ?_ _) | (with_reducible refine below_drew ?_) | (with_reducible refine below_ext ?_ ?_ _ _) | (with_reducible refine Below.setCell ?_ ?_ _) | (simp; done) | (simp; omega) | omega))
              clear hbw
              by_cases hqm : q < len
              · have hi2 : (q : Int) < len := by omega
                have hql : q < l.length := by have := HLen.out; omega
                obtain ⟨k', yes', neg', a', b', s', t', day', pl', nl', cl', pn', nn', cn', h0', h1, h2, h3, h4, h5, h6', h7, h8, h9, hat⟩ := (HR.out _ hb).elem q hql
                have HE := Lib.hid (HX.out q hql _ hb _ hat)
                obtain ⟨u, hu⟩ : ∃ u, u = l[q].form := ⟨_, rfl⟩
                rw [← hu] at HE
                have HU := Lib.hid hu
                have HM := Lib.hid (List.getElem_mem hql)
                have hgr : g < w.heap.size + 1 + osX.size := by omega
                clear hat hu hb HX HR
                cases u
                · have HFF := Lib.hid (show fv = false by
                    rw [HF3.out]
                    cases hq : formL l
                    · rfl
                    · rw [(formL_iff l).1 hq _ HM.out] at HU; cases HU.out)
                  go_wp2_with (first
                    | (go_at_call 80; ((with_reducible refine (HE.out).mono ?_); rintro e w1 ⟨rfl, hb1⟩; obtain ⟨osA, dA, rfl⟩ := ext_of_below hb1; clear hb1)))
                  go_ret
                  exact ⟨by rw [HFF.out]; rfl, by (repeat' (first | (with_reducible exact Below.refl _ _) | (with_reducible assumption) | (with_reducible refine Below.alloc ?_ ?_ _) | (with_reducible refine below_drewN ?_ _) | (with_reducible refine below_drew ?_) | (with_reducible refine below_ext ?_ ?_ _ _) | (with_reducible refine Below.setCell ?_ ?_ _) | (simp; done) | (simp; omega) | omega))⟩
                · go_wp2_with (first
                    | (go_at_call 80; ((with_reducible refine (HE.out).mono ?_); rintro e w1 ⟨rfl, hb1⟩; obtain ⟨osA, dA, rfl⟩ := ext_of_below hb1; clear hb1)))
                  go_roundw
                  case rel => exact ⟨q + 1, by omega, by go_num, by (repeat' (first | (with_reducible exact Below.refl _ _) | (with_reducible assumption) | (with_reducible refine Below.alloc ?_ ?_ _) | (with_reducible refine below_drewN ?_ _) | (with_reducible refine below_drew ?_) | (with_reducible refine below_ext ?_ ?_ _ _) | (with_reducible refine Below.setCell ?_ ?_ _) | (simp; done) | (simp; omega) | omega)), fun v hv => by
                    rw [takeSnoc l q hql] at hv
                    rcases List.mem_append.1 hv with h | h
                    · exact hall.out v h
                    · simp at h; subst h; exact HU.out.symm⟩
                  case measure => simp [intOf]; omega
              · obtain rfl : q = len := by omega
                have hi2 : ¬ (q : Int) < q := by omega
                have HFF := Lib.hid (show fv = true by
                  rw [HF3.out, formL_iff]
                  intro v hv
                  exact hall.out v (by rw [← HLen.out, List.take_length]; exact hv))
                go_wp2
                go_ret
                exact ⟨by rw [HFF.out]; rfl, by (repeat' (first | (with_reducible exact Below.refl _ _) | (with_reducible assumption) | (with_reducible refine Below.alloc ?_ ?_ _) | (with_reducible refine below_drewN ?_ _) | (with_reducible refine below_drew ?_) | (with_reducible refine below_ext ?_ ?_ _ _) | (with_reducible refine Below.setCell ?_ ?_ _) | (simp; done) | (simp; omega) | omega))⟩
mutual
theorem rform_v : ∀ v : V, GC v
  | .mk k yes neg c s t day l ns => rform_step k yes neg c s t day l ns (rform_all l)
theorem rform_all : ∀ (l : List V) (v : V), v ∈ l → GC v
  | [], _, h => by cases h
  | u :: r, v, h => (List.mem_cons.1 h).elim (fun e => e ▸ rform_v u) (fun h => rform_all r v h)
end
end Go.Proofs.YtdgdeognahmpmaaGreatDoor
