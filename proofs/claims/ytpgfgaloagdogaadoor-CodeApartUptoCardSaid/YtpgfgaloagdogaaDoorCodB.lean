/-
  What an instruction leaves, where it leads: the program's way, in the words of both.
-/
import Derived.Test.YtpgfgaloagdogaaDoorBn
namespace Go.Proofs.YtpgfgaloagdogaaDoor
open Go.RowKit Vm
attribute [local go_sem] setCell_drewN cell?_ext frozen?_ext shape?_ext setCell_ext lt_1' ne_1' en_1' le_1' lt_2' ne_2' en_2' le_2' lt_3' ne_3' en_3' le_3' lt_4' ne_4' en_4' le_4' lt_5' ne_5' en_5' le_5' lt_6' ne_6' en_6' le_6' lt_7' ne_7' en_7' le_7' lt_8' ne_8' en_8' le_8' lt_9' ne_9' en_9' le_9' lt_10' ne_10' en_10' le_10' lt_11' ne_11' en_11' le_11' lt_12' ne_12' en_12' le_12'

def onN (op : Int) : Int := if jmp op ∨ op = 103 ∨ op = 104 then 0 else 1
def turnN (op : Int) : Int := if op = 103 then 1 else if op = 104 then -1 else 0
def askN (op : Int) : Int := if asks op then 1 else 0
abbrev okB (op a : Int) : Prop := if op = 25 then 0 ≤ a ∧ a ≤ 8 else if op = 26 ∨ op = 27 then 0 ≤ a else if op = 36 then 1 ≤ a else if jmp op then 0 ≤ a else a = 0
theorem takes_no {op a : Int} (h : ¬ okB op a) : takes op a = none := by
  unfold okB at h
  unfold takes
  by_cases h1 : a < 0 ∨ (op = 36 ∧ a < 1) ∨ (op = 25 ∧ 8 < a)
  · rw [if_pos h1]
  · rw [if_neg h1, if_pos]
    by_cases h2 : op = 25
    · rw [if_pos h2] at h; omega
    · rw [if_neg h2] at h
      by_cases h3 : op = 26 ∨ op = 27
      · rw [if_pos h3] at h; omega
      · rw [if_neg h3] at h
        by_cases h4 : op = 36
        · rw [if_pos h4] at h; omega
        · rw [if_neg h4] at h
          by_cases h5 : jmp op
          · rw [if_pos h5] at h; omega
          · rw [if_neg h5] at h
            exact ⟨by omega, h5, h⟩
theorem takes_off {op a : Int} (h : okB op a) : takes op a = (offN op a).map fun n => (n, onN op, turnN op, askN op) := by
  have g1 : ¬ (a < 0 ∨ (op = 36 ∧ a < 1) ∨ (op = 25 ∧ 8 < a)) ∧ ¬ (¬ cnt op ∧ ¬ jmp op ∧ a ≠ 0) := by
    unfold okB at h
    by_cases h2 : op = 25
    · rw [if_pos h2] at h; omega
    · rw [if_neg h2] at h
      by_cases h3 : op = 26 ∨ op = 27
      · rw [if_pos h3] at h; omega
      · rw [if_neg h3] at h
        by_cases h4 : op = 36
        · rw [if_pos h4] at h; omega
        · rw [if_neg h4] at h
          by_cases h5 : jmp op
          · rw [if_pos h5] at h; omega
          · rw [if_neg h5] at h; omega
  unfold takes
  rw [if_neg g1.1, if_neg g1.2]
  unfold offN
  by_cases c1 : cnt op
  · rw [if_pos c1, if_pos c1]
    simp only [Option.map_some]
    rw [show onN op = 1 by unfold onN; rw [if_neg (by unfold cnt at c1; omega)], show turnN op = 0 by unfold turnN; rw [if_neg (by omega), if_neg (by omega)], show askN op = 0 by unfold askN asks; rw [if_neg (by omega)]]
  · rw [if_neg c1, if_neg c1]
    unfold cnt at c1
    by_cases c2 : (1 ≤ op ∧ op ≤ 7) ∨ op = 29
    · rw [if_pos c2, if_pos (by omega)]
      simp only [Option.map_some]
      rw [show onN op = 1 by unfold onN; rw [if_neg (by omega)], show turnN op = 0 by unfold turnN; rw [if_neg (by omega), if_neg (by omega)], show askN op = 0 by unfold askN asks; rw [if_neg (by omega)]]
    · rw [if_neg c2]
      by_cases c3 : op = 8 ∨ op = 24 ∨ op = 28 ∨ op = 37
      · rw [if_pos c3, if_neg (by omega), if_pos (by omega)]
        simp only [Option.map_some]
        rw [show onN op = 1 by unfold onN; rw [if_neg (by omega)], show turnN op = 0 by unfold turnN; rw [if_neg (by omega), if_neg (by omega)], show askN op = 0 by unfold askN asks; rw [if_neg (by omega)]]
      · rw [if_neg c3]
        by_cases c4 : 9 ≤ op ∧ op ≤ 20
        · rw [if_pos c4, if_neg (by omega), if_neg (by omega), if_pos (by omega)]
          simp only [Option.map_some]
          rw [show onN op = 1 by unfold onN; rw [if_neg (by omega)], show turnN op = 0 by unfold turnN; rw [if_neg (by omega), if_neg (by omega)], show askN op = 0 by unfold askN asks; rw [if_neg (by omega)]]
        · rw [if_neg c4]
          by_cases c5 : op = 22
          · subst c5; rfl
          · rw [if_neg c5]
            by_cases c6 : 30 ≤ op ∧ op ≤ 34
            · rw [if_pos c6, if_neg (by omega), if_pos (by omega)]
              simp only [Option.map_some]
              rw [show onN op = 1 by unfold onN; rw [if_neg (by omega)], show turnN op = 0 by unfold turnN; rw [if_neg (by omega), if_neg (by omega)], show askN op = 1 by unfold askN asks; rw [if_pos (by omega)]]
            · rw [if_neg c6]
              by_cases c7 : op = 35
              · subst c7; rfl
              · by_cases c8 : op = 101
                · subst c8; rfl
                · by_cases c9 : op = 102
                  · subst c9; rfl
                  · by_cases c10 : op = 103
                    · subst c10; rfl
                    · by_cases c11 : op = 104
                      · subst c11; rfl
                      · rw [if_neg c7, if_neg c8, if_neg c9, if_neg c10, if_neg c11, if_neg (by omega), if_neg (by omega), if_neg (by omega), if_neg (by omega)]
                        rfl
theorem okA_iff {op a at_ len : Int} (h : 0 ≤ at_) : okA op a at_ len ↔ okB op a ∧ (jmp op → at_ < a ∧ a ≤ len) := by
  unfold okA okB
  by_cases h2 : op = 25
  · rw [if_pos h2, if_pos h2]; exact ⟨fun h => ⟨h, fun j => by omega⟩, fun h => h.1⟩
  · rw [if_neg h2, if_neg h2]
    by_cases h3 : op = 26 ∨ op = 27
    · rw [if_pos h3, if_pos h3]; exact ⟨fun h => ⟨h, fun j => by omega⟩, fun h => h.1⟩
    · rw [if_neg h3, if_neg h3]
      by_cases h4 : op = 36
      · rw [if_pos h4, if_pos h4]; exact ⟨fun h => ⟨h, fun j => by omega⟩, fun h => h.1⟩
      · rw [if_neg h4, if_neg h4]
        by_cases h5 : jmp op
        · rw [if_pos h5, if_pos h5]; exact ⟨fun h => ⟨by omega, fun _ => h⟩, fun h => h.2 h5⟩
        · rw [if_neg h5, if_neg h5]; exact ⟨fun h => ⟨h, fun j => absurd j h5⟩, fun h => h.1⟩
theorem off_pos {op a n : Int} (ha : 0 ≤ a) (h : offN op a = some n) : 0 ≤ n := by
  unfold offN at h
  repeat' split at h
  all_goals first
    | (cases h; omega)
    | cases h
theorem okB_pos {op a : Int} (h : okB op a) : 0 ≤ a := by
  unfold okB at h
  repeat' split at h
  all_goals omega
/-- it finds what it asks -/
abbrev fineB (op a h e : Int) : Bool := (offN op a).isSome && (decide ((offN op a).getD 0 ≤ h) && !(decide (asks op) && decide (e < 1)))
/-- what it leaves -/
def AftQ (op a h e : Int) (w : World) (en : Ending) (w' : World) : Prop := ∃ x y : Int, en = .returned (.tuple #[.agg #[.int .i64 x, .int .i64 y], .bool (fineB op a h e)]) ∧ Below w.heap.size w w' ∧ (0 ≤ a → fineB op a h e = true → x = h - (offN op a).getD 0 + onN op ∧ y = e + turnN op)
set_option maxRecDepth 100000 in
set_option maxHeartbeats 4000000 in
theorem after_any (h e op a : Int) (t : ByteArray) (neg : Bool) (hh l s day : Int) (w : World) (h0 : 0 ≤ h) (h1 : h ≤ 1000000) (e0 : -1000000 ≤ e) (e1 : e ≤ 1000000) :
    Calls Tryd.prog 43 #[.agg #[.int .i64 h, .int .i64 e], InsV op a t neg hh l s day] w fun en w' => AftQ op a h e w en w' := by
  have HP := Lib.hid (fun w => pops_any op a t neg hh l s day w)
  have HI := Lib.hid (fun w => inTests_any op w)
  have HF := Lib.hid (show fineB op a h e = ((offN op a).isSome && (decide ((offN op a).getD 0 ≤ h) && !(decide (asks op) && decide (e < 1)))) from rfl)
  have HN := Lib.hid (fun n (ha : 0 ≤ a) (hn : offN op a = some n) => off_pos ha hn)
  unfold AftQ
  obtain ⟨f, hf⟩ : ∃ f, f = fineB op a h e := ⟨_, rfl⟩
  rw [← hf] at HF ⊢
  obtain ⟨ak, has⟩ : ∃ ak, ak = decide (asks op) := ⟨_, rfl⟩
  rw [← has] at HI HF
  obtain ⟨on, hon⟩ : ∃ on, on = onN op := ⟨_, rfl⟩
  obtain ⟨tu, htu⟩ : ∃ tu, tu = turnN op := ⟨_, rfl⟩
  have HON := Lib.hid hon
  have HTU := Lib.hid htu
  rw [← hon, ← htu]
  cases hof : offN op a with
  | none =>
    rw [hof] at HP HF
    have HFF := Lib.hid (show f = false from HF.out)
    clear hf has HF HN hof hon htu
    go_enter Tryd.func43, Tryd.ntmps43
    go_wp2_with (first
      | (go_at_call 54; ((with_reducible refine (HP.out _).mono ?_); rintro e w1 ⟨rfl, hb1⟩; obtain ⟨osA, dA, rfl⟩ := ext_of_below hb1; clear hb1)))
    go_returns
    exact (show ∃ x y, _ from ⟨0, 0, by rw [HFF.out], by (repeat' (first | (with_reducible exact Below.refl _ _) | (with_reducible assumption) | (with_reducible refine Below.alloc ?_ ?_ _) | (with_reducible refine below_drewN ?_ _) | (with_reducible refine below_drew ?_) | (with_reducible refine below_ext ?_ ?_ _ _) | (with_reducible refine Below.setCell ?_ ?_ _) | (simp; done) | (simp; omega) | omega)), fun _ h => by rw [HFF.out] at h; cases h⟩)
  | some n =>
    rw [hof] at HP HF
    have HN2 := Lib.hid (fun ha => HN.out n ha hof)
    simp only [Option.isSome_some, Option.getD_some, Bool.true_and] at HP HF ⊢
    clear hf has HN hof hon htu
    have W3 : IntKind.i64.wrap (e + 1) = e + 1 := IntWalk.i64_in _ (by omega)
    have W4 : IntKind.i64.wrap (e - 1) = e - 1 := IntWalk.i64_in _ (by omega)
    by_cases hn : n ≤ h
    · have hn2 : ¬ h < n := by omega
      by_cases hq : ak = true ∧ e < 1
      · obtain ⟨rfl, he⟩ := hq
        have HFF := Lib.hid (show f = false by rw [HF.out, decide_eq_true hn, decide_eq_true he]; rfl)
        clear HF HON HTU HN2 W3 W4
        go_enter Tryd.func43, Tryd.ntmps43
        go_wp2_with (first
          | (go_at_call 54; ((with_reducible refine (HP.out _).mono ?_); rintro e w1 ⟨rfl, hb1⟩; obtain ⟨osA, dA, rfl⟩ := ext_of_below hb1; clear hb1))
          | (go_at_call 60; ((with_reducible refine (HI.out _).mono ?_); rintro e w' ⟨rfl, rfl⟩)))
        go_returns
        exact (show ∃ x y, _ from ⟨0, 0, by rw [HFF.out], by (repeat' (first | (with_reducible exact Below.refl _ _) | (with_reducible assumption) | (with_reducible refine Below.alloc ?_ ?_ _) | (with_reducible refine below_drewN ?_ _) | (with_reducible refine below_drew ?_) | (with_reducible refine below_ext ?_ ?_ _ _) | (with_reducible refine Below.setCell ?_ ?_ _) | (simp; done) | (simp; omega) | omega)), fun _ h => by rw [HFF.out] at h; cases h⟩)
      · have HFF := Lib.hid (show f = true by
          rw [HF.out, decide_eq_true hn]
          cases ak with
          | false => rfl
          | true => rw [decide_eq_false (fun h => hq ⟨rfl, h⟩)]; rfl)
        have hq2 : ak = false ∨ ¬ e < 1 := by
          cases ak with
          | false => exact .inl rfl
          | true => exact .inr fun h => hq ⟨rfl, h⟩
        clear HF hq
        by_cases ha : 0 ≤ a
        · have hn0 := HN2.out ha
          have W1 : IntKind.i64.wrap (h - n) = h - n := IntWalk.i64_in _ (by omega)
          have W2 : IntKind.i64.wrap (h - n + 1) = h - n + 1 := IntWalk.i64_in _ (by omega)
          clear HN2 ha
          rcases hq2 with rfl | hq3
          all_goals
            go_enter Tryd.func43, Tryd.ntmps43
            go_wp2_with (first
              | (go_at_call 54; ((with_reducible refine (HP.out _).mono ?_); rintro e w1 ⟨rfl, hb1⟩; obtain ⟨osA, dA, rfl⟩ := ext_of_below hb1; clear hb1))
              | (go_at_call 60; ((with_reducible refine (HI.out _).mono ?_); rintro e w' ⟨rfl, rfl⟩)))
            all_goals
              go_returns
              refine (show ∃ x y, _ from ⟨_, _, by rw [HFF.out], by (repeat' (first | (with_reducible exact Below.refl _ _) | (with_reducible assumption) | (with_reducible refine Below.alloc ?_ ?_ _) | (with_reducible refine below_drewN ?_ _) | (with_reducible refine below_drew ?_) | (with_reducible refine below_ext ?_ ?_ _ _) | (with_reducible refine Below.setCell ?_ ?_ _) | (simp; done) | (simp; omega) | omega)), fun _ _ => ?_⟩)
              rw [HON.out, HTU.out]
              clear HP HI HFF HON HTU
              simp_all [onN, turnN, jmp] <;> omega
        · clear HN2 hn2
          rcases hq2 with rfl | hq3
          all_goals
            go_enter Tryd.func43, Tryd.ntmps43
            go_wp2_with (first
              | (go_at_call 54; ((with_reducible refine (HP.out _).mono ?_); rintro e w1 ⟨rfl, hb1⟩; obtain ⟨osA, dA, rfl⟩ := ext_of_below hb1; clear hb1))
              | (go_at_call 60; ((with_reducible refine (HI.out _).mono ?_); rintro e w' ⟨rfl, rfl⟩)))
            all_goals
              go_returns
              exact (show ∃ x y, _ from ⟨_, _, by rw [HFF.out], by (repeat' (first | (with_reducible exact Below.refl _ _) | (with_reducible assumption) | (with_reducible refine Below.alloc ?_ ?_ _) | (with_reducible refine below_drewN ?_ _) | (with_reducible refine below_drew ?_) | (with_reducible refine below_ext ?_ ?_ _ _) | (with_reducible refine Below.setCell ?_ ?_ _) | (simp; done) | (simp; omega) | omega)), fun h1 _ => absurd h1 (by omega)⟩)
    · have HFF := Lib.hid (show f = false by rw [HF.out, decide_eq_false hn]; rfl)
      have hn2 : h < n := by omega
      clear HF HON HTU HN2 W3 W4 hn
      go_enter Tryd.func43, Tryd.ntmps43
      go_wp2_with (first
        | (go_at_call 54; ((with_reducible refine (HP.out _).mono ?_); rintro e w1 ⟨rfl, hb1⟩; obtain ⟨osA, dA, rfl⟩ := ext_of_below hb1; clear hb1))
        | (go_at_call 60; ((with_reducible refine (HI.out _).mono ?_); rintro e w' ⟨rfl, rfl⟩)))
      go_returns
      exact (show ∃ x y, _ from ⟨0, 0, by rw [HFF.out], by (repeat' (first | (with_reducible exact Below.refl _ _) | (with_reducible assumption) | (with_reducible refine Below.alloc ?_ ?_ _) | (with_reducible refine below_drewN ?_ _) | (with_reducible refine below_drew ?_) | (with_reducible refine below_ext ?_ ?_ _ _) | (with_reducible refine Below.setCell ?_ ?_ _) | (simp; done) | (simp; omega) | omega)), fun _ h => by rw [HFF.out] at h; cases h⟩)
/-- where it leads, as numbers -/
def goalsI (op a at_ : Int) : List Int := if op = 101 then [a] else if op = 102 then [at_ + 1, a] else [at_ + 1]
def GoQ (G : List Int) (w : World) (en : Ending) (w' : World) : Prop := ∃ g, en = .returned (.slice (some ⟨g, 0, none⟩) G.length G.length) ∧ Below w.heap.size w w' ∧ w.heap.size ≤ g ∧ g < w'.heap.size ∧ ∀ j (h : j < G.length), w'.cell? ⟨g, j, none⟩ = some (.int .i64 G[j])
theorem targets_any (op a at_ : Int) (t : ByteArray) (neg : Bool) (hh l s day : Int) (w : World) (h0 : 0 ≤ at_) (h1 : at_ ≤ 1000000) :
    Calls Tryd.prog 45 #[InsV op a t neg hh l s day, .int .i64 at_] w fun en w' => GoQ (goalsI op a at_) w en w' := by
  have W1 : IntKind.i64.wrap (at_ + 1) = at_ + 1 := IntWalk.i64_in _ (by omega)
  unfold goalsI
  by_cases c1 : op = 101
  · subst c1
    rw [if_pos rfl]
    unfold GoQ
    go_enter Tryd.func45, Tryd.ntmps45
    go_wp2
    go_ret
    exact (show ∃ g, _ from ⟨w.heap.size + 1, rfl, by (repeat' (first | (with_reducible exact Below.refl _ _) | (with_reducible assumption) | (with_reducible refine Below.alloc ?_ ?_ _) | (with_reducible refine below_drewN ?_ _) | (with_reducible refine below_drew ?_) | (with_reducible refine below_ext ?_ ?_ _ _) | (with_reducible refine Below.setCell ?_ ?_ _) | (simp; done) | (simp; omega) | omega)), by omega, by simp, fun j hj => by
      obtain rfl : j = 0 := by have h2 : j < 1 := hj; omega
      simp⟩)
  · rw [if_neg c1]
    by_cases c2 : op = 102
    · subst c2
      rw [if_pos rfl]
      unfold GoQ
      go_enter Tryd.func45, Tryd.ntmps45
      go_wp2
      go_ret
      exact (show ∃ g, _ from ⟨w.heap.size + 1, rfl, by (repeat' (first | (with_reducible exact Below.refl _ _) | (with_reducible assumption) | (with_reducible refine Below.alloc ?_ ?_ _) | (with_reducible refine below_drewN ?_ _) | (with_reducible refine below_drew ?_) | (with_reducible refine below_ext ?_ ?_ _ _) | (with_reducible refine Below.setCell ?_ ?_ _) | (simp; done) | (simp; omega) | omega)), by omega, by simp, fun j hj => by
        have : j = 0 ∨ j = 1 := by have h2 : j < 2 := hj; omega
        rcases this with rfl | rfl <;> simp⟩)
    · rw [if_neg c2]
      unfold GoQ
      go_enter Tryd.func45, Tryd.ntmps45
      go_wp2
      go_ret
      exact (show ∃ g, _ from ⟨w.heap.size + 1, rfl, by (repeat' (first | (with_reducible exact Below.refl _ _) | (with_reducible assumption) | (with_reducible refine Below.alloc ?_ ?_ _) | (with_reducible refine below_drewN ?_ _) | (with_reducible refine below_drew ?_) | (with_reducible refine below_ext ?_ ?_ _ _) | (with_reducible refine Below.setCell ?_ ?_ _) | (simp; done) | (simp; omega) | omega)), by omega, by simp, fun j hj => by
        obtain rfl : j = 0 := by have h2 : j < 1 := hj; omega
        simp⟩)
end Go.Proofs.YtpgfgaloagdogaaDoor
