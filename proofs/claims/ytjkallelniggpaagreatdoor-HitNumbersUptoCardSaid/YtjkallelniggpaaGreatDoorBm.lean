/-
  Lists of lists of values; the library's IndexFunc and ContainsFunc over values and over lists of them; all.
  The same over lists of lists of values.
  What Decide is handed, in form: values, lists of them, names.
  Names that are names and stand once; what Decide is handed, in form.
  What Decide is handed, in form; which numbers are policies.
-/
import Derived.Test.YtjkallelniggpaaGreatDoorValRS
namespace Go.Proofs.YtjkallelniggpaaGreatDoor
open Go.RowKit Word Txt
attribute [local go_sem] setCell_drewN cell?_ext frozen?_ext shape?_ext setCell_ext lt_1' ne_1' en_1' le_1' lt_2' ne_2' en_2' le_2' lt_3' ne_3' en_3' le_3' lt_4' ne_4' en_4' le_4' lt_5' ne_5' en_5' le_5' lt_6' ne_6' en_6' le_6' lt_7' ne_7' en_7' le_7' lt_8' ne_8' en_8' le_8' lt_9' ne_9' en_9' le_9' lt_10' ne_10' en_10' le_10' lt_11' ne_11' en_11' le_11' lt_12' ne_12' en_12' le_12'

/-- a slice of slices of values, below block n -/
def WSl (n : Nat) (w : World) (R : List (List V)) (rv : Value) : Prop :=
  (R = [] ∧ ∃ p c, rv = .slice p 0 c) ∨ ∃ g o cap, rv = .slice (some ⟨g, o, none⟩) R.length cap ∧ R.length ≤ cap ∧ g < n ∧ g < w.heap.size ∧ ∀ i (h : i < R.length), ∃ vi, w.cell? ⟨g, o + i, none⟩ = some vi ∧ VSl n w R[i] vi
theorem WSl.below {n : Nat} {w w' : World} (hb : Below n w w') {R : List (List V)} {rv : Value} (h : WSl n w R rv) : WSl n w' R rv := by
  rcases h with h | ⟨g, o, cap, e, hcp, h1, h2, h3⟩
  · exact .inl h
  · refine .inr ⟨g, o, cap, e, hcp, h1, Nat.lt_of_lt_of_le h2 hb.size, fun i hi => ?_⟩
    obtain ⟨vi, h4, h5⟩ := h3 i hi
    exact ⟨vi, (hb.cell (p := ⟨g, o + i, none⟩) h1).trans h4, h5.below hb⟩
theorem WSl.cap {n : Nat} {w : World} {R : List (List V)} {p : Option Addr} {m c : Nat} (h : WSl n w R (.slice p m c)) : m ≤ c := by
  rcases h with ⟨rfl, p, c, e⟩ | ⟨g, o, cap, e, hcp, _⟩
  · injection e with _ e2 _; rw [e2]; exact Nat.zero_le _
  · injection e with _ e2 e3; rw [e2, e3]; exact hcp
theorem WSl.shape {n : Nat} {w : World} {R : List (List V)} {rv : Value} (h : WSl n w R rv) : ∃ p c, rv = .slice p R.length c := by
  rcases h with ⟨rfl, p, c, rfl⟩ | ⟨g, o, cap, rfl, _⟩
  · exact ⟨p, c, rfl⟩
  · exact ⟨_, _, rfl⟩
/-- what a function value must be -/
abbrev Enters (g : Nat) : Prop := ∀ (args : Array Value) (w : World), (callFunc g args).run Tryz.prog w = .ok (.enter g args) w
/-- where the first is of which p holds; -1 -/
def idxP {α : Type} (p : α → Bool) (l : List α) : Int := match l.findIdx? p with
  | some i => (i : Int)
  | none => -1
theorem idxP_some {α : Type} {p : α → Bool} {l : List α} {m : Nat} (h : m < l.length) (hp : p l[m] = true) (hn : ∀ i (hi : i < l.length), i < m → p l[i] = false) : idxP p l = (m : Int) := by
  unfold idxP
  have : l.findIdx? p = some m := by
    rw [List.findIdx?_eq_some_iff_getElem]
    exact ⟨h, hp, fun j hj => by rw [hn j (by omega) hj]; simp⟩
  rw [this]
theorem idxP_none {α : Type} {p : α → Bool} {l : List α} (hn : ∀ i (hi : i < l.length), p l[i] = false) : idxP p l = -1 := by
  unfold idxP
  have : l.findIdx? p = none := by
    rw [List.findIdx?_eq_none_iff]
    intro x hx
    obtain ⟨i, hi, rfl⟩ := List.getElem_of_mem hx
    exact hn i hi
  rw [this]
theorem idxP_any {α : Type} (p : α → Bool) (l : List α) : decide ((0 : Int) ≤ idxP p l) = l.any p := by
  unfold idxP
  cases h : l.findIdx? p with
  | none =>
    rw [List.findIdx?_eq_none_iff] at h
    have : l.any p = false := by
      rw [List.any_eq_false]
      intro x hx
      rw [h x hx]; simp
    rw [this]
    exact decide_eq_false (by show ¬ (0 : Int) ≤ -1; omega)
  | some m =>
    rw [List.findIdx?_eq_some_iff_getElem] at h
    obtain ⟨h1, h2, -⟩ := h
    have : l.any p = true := List.any_eq_true.2 ⟨l[m], List.getElem_mem h1, h2⟩
    rw [this]
    exact decide_eq_true (by show (0 : Int) ≤ (m : Int); omega)
set_option maxHeartbeats 4000000 in
set_option maxRecDepth 100000 in
theorem idxV_any (g : Nat) (lb : Array Value) (eg : Enters g) (p : V → Bool) (n : Nat) (w : World) (l : List V) (lv : Value) (hx : VSl n w l lv) (hl : l.length ≤ 1048576) (hnw : n ≤ w.heap.size)
    (hp : ∀ v ∈ l, ∀ w' x, Below w.heap.size w w' → v.At n w' x → Calls Tryz.prog g (#[x] ++ lb) w' fun e w'' => e = .returned (.bool (p v)) ∧ Below w'.heap.size w' w'') :
    Calls Tryz.prog 88 #[lv, .func (.func g) #[] lb] w fun e w' => e = .returned (.int .i64 (idxP p l)) ∧ Below w.heap.size w w' := by
  obtain ⟨px, cx, ex⟩ : ∃ p c, lv = .slice p l.length c := by
    rcases hx with ⟨rfl, p, c, rfl⟩ | ⟨g, o, cap, rfl, _⟩
    · exact ⟨p, c, rfl⟩
    · exact ⟨_, _, rfl⟩
  subst ex
  have HP := Lib.hid hp
  obtain ⟨len, hln⟩ : ∃ len, l.length = len := ⟨_, rfl⟩
  have HLN := Lib.hid hln
  rw [hln] at hx hl ⊢
  have HA := Lib.hid (fun w' (hb : Below w.heap.size w w') => hx.below (hb.mono hnw))
  clear hx hp hln
  go_enter Tryz.func88, Tryz.ntmps88
  go_wp2
  go_loopw [8] (fun i wr => ∃ m : Nat, m ≤ len ∧ i = .int .i64 m ∧ Hid (Below w.heap.size w wr) ∧ Hid (∀ i (h : i < l.length), i < m → p l[i] = false)) (fun i _ => len - (intOf i).toNat)
  case atStart => exact ⟨0, by omega, rfl, Lib.hid (Below.refl _ _), Lib.hid (fun i _ h => by omega)⟩
  case round =>
    obtain ⟨m, hm, rfl, hbw, hs0⟩ := hrel
    by_cases hml : m < len
    · have hi : (m : Int) < len := by omega
      have h1 : m < l.length := by have := HLN.out; omega
      obtain ⟨gg, o, rfl, hg, hr⟩ : ∃ g o, px = some ⟨g, o, none⟩ ∧ g < wr.heap.size ∧ RowAt n wr g l o := by
        rcases HA.out wr hbw.out with ⟨h, _⟩ | ⟨g, o, cap, h, _, hg, hr⟩
        · rw [h] at h1; simp at h1
        · simp only [Value.slice.injEq] at h; exact ⟨g, o, h.1, hg, hr⟩
      obtain ⟨k1, yes1, neg1, a1, b1, s1, t1, day1, pl1, nl1, cl1, pn1, nn1, cn1, u0, u1, u2, u3, u4, u5, u6, u7, u8, u9, hat1⟩ := hr.elem m h1
      have HE := Lib.hid (HP.out l[m] (List.getElem_mem h1) wr _ hbw.out hat1)
      obtain ⟨u, hu⟩ : ∃ u, u = p l[m] := ⟨_, rfl⟩
      rw [← hu] at HE
      have HU := Lib.hid hu
      clear hat1 hu hr
      cases u
      · have HN := Lib.hid (show ∀ i (h : i < l.length), i < m + 1 → p l[i] = false from fun i hi h => by
          by_cases e : i = m
          · subst e; exact HU.out.symm
          · exact hs0.out i hi (by omega))
        go_wp2_with (go_at_fn g; ((with_reducible refine HE.out.mono ?_); rintro e w1 ⟨rfl, hb1⟩; have HB1 := Lib.hid (hbw.out.trans (hb1.mono hbw.out.size)); clear hb1))
        go_roundw
        case rel => exact ⟨m + 1, by omega, by go_num, HB1, HN⟩
        case measure => simp [intOf]; omega
      · have HR := Lib.hid (show idxP p l = (m : Int) from idxP_some h1 HU.out.symm hs0.out)
        go_wp2_with (go_at_fn g; ((with_reducible refine HE.out.mono ?_); rintro e w1 ⟨rfl, hb1⟩; have HB1 := Lib.hid (hbw.out.trans (hb1.mono hbw.out.size)); clear hb1))
        go_ret
        exact ⟨by rw [HR.out]; rfl, HB1.out⟩
    · obtain rfl : m = len := by omega
      have hi : ¬ (m : Int) < m := by omega
      have HR := Lib.hid (show idxP p l = -1 from idxP_none fun i hi => hs0.out i hi (by rw [HLN.out] at hi; exact hi))
      go_wp2
      go_ret
      exact ⟨by rw [HR.out]; rfl, hbw.out⟩
/-- what a predicate on values answers, wherever the value lies the same -/
def PredV (w : World) (n g : Nat) (lb : Array Value) (p : V → Bool) (v : V) : Prop :=
  ∀ w' x, Below w.heap.size w w' → v.At n w' x → Calls Tryz.prog g (#[x] ++ lb) w' fun e w'' => e = .returned (.bool (p v)) ∧ Below w'.heap.size w' w''
theorem PredV.later {w w1 : World} {n g : Nat} {lb : Array Value} {p : V → Bool} {v : V} (h : PredV w n g lb p v) (hb : Below w.heap.size w w1) : PredV w1 n g lb p v :=
  fun w' x hb' ha => h w' x (hb.trans (hb'.mono hb.size)) ha
theorem contV_any (g : Nat) (lb : Array Value) (eg : Enters g) (p : V → Bool) (n : Nat) (w : World) (l : List V) (lv : Value) (hx : VSl n w l lv) (hl : l.length ≤ 1048576) (hnw : n ≤ w.heap.size) (hp : ∀ v ∈ l, PredV w n g lb p v) :
    Calls Tryz.prog 74 #[lv, .func (.func g) #[] lb] w fun e w' => e = .returned (.bool (l.any p)) ∧ Below w.heap.size w w' := by
  have HI := Lib.hid (idxV_any g lb eg p n w l lv hx hl hnw hp)
  have HR := Lib.hid (idxP_any p l)
  obtain ⟨r, hr⟩ : ∃ r, r = idxP p l := ⟨_, rfl⟩
  rw [← hr] at HI HR
  obtain ⟨b, hb⟩ : ∃ b, b = decide ((0 : Int) ≤ r) := ⟨_, rfl⟩
  rw [← hb] at HR
  rw [← HR.out]
  have HB := Lib.hid hb
  clear hx hp hr hb
  obtain ⟨px, ex⟩ : ∃ y, y = lv := ⟨_, rfl⟩
  go_enter Tryz.func74, Tryz.ntmps74
  go_wp2_with (go_at_call 88; ((with_reducible refine HI.out.mono ?_); rintro e w1 ⟨rfl, hb1⟩; have HB1 := Lib.hid hb1; clear hb1))
  go_ret
  exact ⟨by rw [HB.out]; rfl, HB1.out⟩
set_option maxHeartbeats 4000000 in
set_option maxRecDepth 100000 in
theorem notV_any (g : Nat) (lb : Array Value) (eg : Enters g) (p : V → Bool) (n : Nat) (w : World) (v : V) (x : Value) (hx : v.At n w x) (hnw : n ≤ w.heap.size) (B : Nat) (hB : B < w.heap.size) (hc : w.cell? ⟨B, 0, none⟩ = some (.func (.func g) #[] lb)) (hp : PredV w n g lb p v) :
    Calls Tryz.prog 75 #[x, .pointer (some ⟨B, 0, none⟩)] w fun e w' => e = .returned (.bool (!p v)) ∧ Below w.heap.size w w' := by
  obtain ⟨bx, hbx⟩ : ∃ bx : Obj, bx = bx := ⟨.cells #[] 0, rfl⟩
  clear hbx bx
  have HP := Lib.hid (fun bx => hp (w.alloc bx) x ((Below.refl _ w).alloc (Nat.le_refl _) bx) (hx.below ((Below.refl _ w).alloc hnw bx)))
  obtain ⟨k, yes, neg, c, s, t, day, l, ns, hv⟩ : ∃ k yes neg c s t day l ns, v = V.mk k yes neg c s t day l ns := by cases v; exact ⟨_, _, _, _, _, _, _, _, _, rfl⟩
  obtain ⟨pl, nl, cl, pn, nn, cn, rfl⟩ : ∃ pl nl cl pn nn cn, x = VC k yes neg c s t day (.slice pl nl cl) (.slice pn nn cn) := by
    rw [hv] at hx
    obtain ⟨lv, nv, rfl, _, hL, hN, _⟩ := at_mk hx
    obtain ⟨pl, cl, rfl⟩ := hL.shape
    obtain ⟨pn, cn, rfl⟩ := hN.shape
    exact ⟨_, _, _, _, _, _, rfl⟩
  obtain ⟨b, hb⟩ : ∃ b, b = p v := ⟨_, rfl⟩
  rw [← hb] at HP ⊢
  clear hx hp hb hv
  go_enter Tryz.func75, Tryz.ntmps75
  go_wp2_with (go_at_fn g; ((with_reducible refine (HP.out _).mono ?_); rintro e w1 ⟨rfl, hb1⟩; have HB1 := Lib.hid (Below.trans ((Below.refl w.heap.size w).alloc (Nat.le_refl _) _) (hb1.mono (by simp))); clear hb1))
  go_ret
  exact ⟨rfl, HB1.out⟩
theorem any_not {α : Type} (p : α → Bool) (l : List α) : (!(l.any fun x => !p x)) = l.all p := by
  induction l with
  | nil => rfl
  | cons a r ih => simp only [List.any_cons, List.all_cons]; rw [← ih]; cases p a <;> simp
theorem allV_any (g : Nat) (lb : Array Value) (eg : Enters g) (p : V → Bool) (n : Nat) (w : World) (l : List V) (lv : Value) (hx : VSl n w l lv) (hl : l.length ≤ 1048576) (hnw : n ≤ w.heap.size) (hp : ∀ v ∈ l, PredV w n g lb p v) :
    Calls Tryz.prog 50 #[lv, .func (.func g) #[] lb] w fun e w' => e = .returned (.bool (l.all p)) ∧ Below w.heap.size w w' := by
  obtain ⟨w1, hw1⟩ : ∃ w1, w1 = w.alloc (.cells #[.func (.func g) #[] lb] 70) := ⟨_, rfl⟩
  have hb1 : Below w.heap.size w w1 := by rw [hw1]; exact (Below.refl _ w).alloc (Nat.le_refl _) _
  have hs1 : w1.heap.size = w.heap.size + 1 := by rw [hw1]; simp
  have hc1 : w1.cell? ⟨w.heap.size, 0, none⟩ = some (.func (.func g) #[] lb) := by rw [hw1]; simp [go_sem]
  have HC := Lib.hid (contV_any 75 #[.pointer (some ⟨w.heap.size, 0, none⟩)] (enters_of Tryz.func75 (by kernel_rfl) rfl) (fun v => !p v) n w1 l lv (hx.below (hb1.mono hnw)) hl (by omega)
    (fun v hv w' x hb ha => notV_any g lb eg p n w' v x ha (by have := hb.size; omega) w.heap.size (by have := hb.size; omega) ((hb.cell (p := ⟨w.heap.size, 0, none⟩) (show w.heap.size < w1.heap.size by omega)).trans hc1) ((hp v hv).later (hb1.trans (hb.mono (by omega))))))
  have HR := Lib.hid (any_not p l)
  obtain ⟨b, hb⟩ : ∃ b, b = (l.any fun x => !p x) := ⟨_, rfl⟩
  rw [← hb] at HC HR
  rw [← HR.out]
  subst hw1
  clear hx hp hb hb1 hs1 hc1
  go_enter Tryz.func50, Tryz.ntmps50
  go_wp2_with (go_at_call 74; ((with_reducible refine HC.out.mono ?_); rintro e w1 ⟨rfl, hb1⟩; have HB1 := Lib.hid (Below.trans ((Below.refl w.heap.size w).alloc (Nat.le_refl _) _) (hb1.mono (by simp))); clear hb1))
  go_ret
  exact ⟨rfl, HB1.out⟩
end Go.Proofs.YtjkallelniggpaaGreatDoor
namespace Go.Proofs.YtjkallelniggpaaGreatDoor
open Go.RowKit Word Txt
attribute [local go_sem] setCell_drewN cell?_ext frozen?_ext shape?_ext setCell_ext lt_1' ne_1' en_1' le_1' lt_2' ne_2' en_2' le_2' lt_3' ne_3' en_3' le_3' lt_4' ne_4' en_4' le_4' lt_5' ne_5' en_5' le_5' lt_6' ne_6' en_6' le_6' lt_7' ne_7' en_7' le_7' lt_8' ne_8' en_8' le_8' lt_9' ne_9' en_9' le_9' lt_10' ne_10' en_10' le_10' lt_11' ne_11' en_11' le_11' lt_12' ne_12' en_12' le_12'

set_option maxHeartbeats 4000000 in
set_option maxRecDepth 100000 in
theorem idxW_any (g : Nat) (lb : Array Value) (eg : Enters g) (p : List V → Bool) (n : Nat) (w : World) (l : List (List V)) (lv : Value) (hx : WSl n w l lv) (hl : l.length ≤ 1048576) (hnw : n ≤ w.heap.size)
    (hp : ∀ v ∈ l, ∀ w' x, Below w.heap.size w w' → VSl n w' v x → Calls Tryz.prog g (#[x] ++ lb) w' fun e w'' => e = .returned (.bool (p v)) ∧ Below w'.heap.size w' w'') :
    Calls Tryz.prog 87 #[lv, .func (.func g) #[] lb] w fun e w' => e = .returned (.int .i64 (idxP p l)) ∧ Below w.heap.size w w' := by
  obtain ⟨px, cx, ex⟩ : ∃ p c, lv = .slice p l.length c := by
    rcases hx with ⟨rfl, p, c, rfl⟩ | ⟨g, o, cap, rfl, _⟩
    · exact ⟨p, c, rfl⟩
    · exact ⟨_, _, rfl⟩
  subst ex
  have HP := Lib.hid hp
  obtain ⟨len, hln⟩ : ∃ len, l.length = len := ⟨_, rfl⟩
  have HLN := Lib.hid hln
  rw [hln] at hx hl ⊢
  have HA := Lib.hid (fun w' (hb : Below w.heap.size w w') => hx.below (hb.mono hnw))
  clear hx hp hln
  go_enter Tryz.func87, Tryz.ntmps87
  go_wp2
  go_loopw [8] (fun i wr => ∃ m : Nat, m ≤ len ∧ i = .int .i64 m ∧ Hid (Below w.heap.size w wr) ∧ Hid (∀ i (h : i < l.length), i < m → p l[i] = false)) (fun i _ => len - (intOf i).toNat)
  case atStart => exact ⟨0, by omega, rfl, Lib.hid (Below.refl _ _), Lib.hid (fun i _ h => by omega)⟩
  case round =>
    obtain ⟨m, hm, rfl, hbw, hs0⟩ := hrel
    by_cases hml : m < len
    · have hi : (m : Int) < len := by omega
      have h1 : m < l.length := by have := HLN.out; omega
      obtain ⟨gg, o, rfl, hg, hr⟩ : ∃ g o, px = some ⟨g, o, none⟩ ∧ g < wr.heap.size ∧ ∀ i (h : i < l.length), ∃ vi, wr.cell? ⟨g, o + i, none⟩ = some vi ∧ VSl n wr l[i] vi := by
        rcases HA.out wr hbw.out with ⟨h, _⟩ | ⟨g, o, cap, h, _, _, hg, hr⟩
        · rw [h] at h1; simp at h1
        · simp only [Value.slice.injEq] at h; exact ⟨g, o, h.1, hg, hr⟩
      obtain ⟨vi, hci, hat1⟩ := hr m h1
      obtain ⟨pi, ci, rfl⟩ := hat1.shape
      have HE := Lib.hid (HP.out l[m] (List.getElem_mem h1) wr _ hbw.out hat1)
      obtain ⟨u, hu⟩ : ∃ u, u = p l[m] := ⟨_, rfl⟩
      rw [← hu] at HE
      have HU := Lib.hid hu
      clear hat1 hu hr
      cases u
      · have HN := Lib.hid (show ∀ i (h : i < l.length), i < m + 1 → p l[i] = false from fun i hi h => by
          by_cases e : i = m
          · subst e; exact HU.out.symm
          · exact hs0.out i hi (by omega))
        go_wp2_with (go_at_fn g; ((with_reducible refine HE.out.mono ?_); rintro e w1 ⟨rfl, hb1⟩; have HB1 := Lib.hid (hbw.out.trans (hb1.mono hbw.out.size)); clear hb1))
        go_roundw
        case rel => exact ⟨m + 1, by omega, by go_num, HB1, HN⟩
        case measure => simp [intOf]; omega
      · have HR := Lib.hid (show idxP p l = (m : Int) from idxP_some h1 HU.out.symm hs0.out)
        go_wp2_with (go_at_fn g; ((with_reducible refine HE.out.mono ?_); rintro e w1 ⟨rfl, hb1⟩; have HB1 := Lib.hid (hbw.out.trans (hb1.mono hbw.out.size)); clear hb1))
        go_ret
        exact ⟨by rw [HR.out]; rfl, HB1.out⟩
    · obtain rfl : m = len := by omega
      have hi : ¬ (m : Int) < m := by omega
      have HR := Lib.hid (show idxP p l = -1 from idxP_none fun i hi => hs0.out i hi (by rw [HLN.out] at hi; exact hi))
      go_wp2
      go_ret
      exact ⟨by rw [HR.out]; rfl, hbw.out⟩
/-- what a predicate on lists of values answers, wherever the value lies the same -/
def PredW (w : World) (n g : Nat) (lb : Array Value) (p : List V → Bool) (v : List V) : Prop :=
  ∀ w' x, Below w.heap.size w w' → VSl n w' v x → Calls Tryz.prog g (#[x] ++ lb) w' fun e w'' => e = .returned (.bool (p v)) ∧ Below w'.heap.size w' w''
theorem PredW.later {w w1 : World} {n g : Nat} {lb : Array Value} {p : List V → Bool} {v : List V} (h : PredW w n g lb p v) (hb : Below w.heap.size w w1) : PredW w1 n g lb p v :=
  fun w' x hb' ha => h w' x (hb.trans (hb'.mono hb.size)) ha
theorem contW_any (g : Nat) (lb : Array Value) (eg : Enters g) (p : List V → Bool) (n : Nat) (w : World) (l : List (List V)) (lv : Value) (hx : WSl n w l lv) (hl : l.length ≤ 1048576) (hnw : n ≤ w.heap.size) (hp : ∀ v ∈ l, PredW w n g lb p v) :
    Calls Tryz.prog 68 #[lv, .func (.func g) #[] lb] w fun e w' => e = .returned (.bool (l.any p)) ∧ Below w.heap.size w w' := by
  have HI := Lib.hid (idxW_any g lb eg p n w l lv hx hl hnw hp)
  have HR := Lib.hid (idxP_any p l)
  obtain ⟨r, hr⟩ : ∃ r, r = idxP p l := ⟨_, rfl⟩
  rw [← hr] at HI HR
  obtain ⟨b, hb⟩ : ∃ b, b = decide ((0 : Int) ≤ r) := ⟨_, rfl⟩
  rw [← hb] at HR
  rw [← HR.out]
  have HB := Lib.hid hb
  clear hx hp hr hb
  obtain ⟨px, ex⟩ : ∃ y, y = lv := ⟨_, rfl⟩
  go_enter Tryz.func68, Tryz.ntmps68
  go_wp2_with (go_at_call 87; ((with_reducible refine HI.out.mono ?_); rintro e w1 ⟨rfl, hb1⟩; have HB1 := Lib.hid hb1; clear hb1))
  go_ret
  exact ⟨by rw [HB.out]; rfl, HB1.out⟩
set_option maxHeartbeats 4000000 in
set_option maxRecDepth 100000 in
theorem notW_any (g : Nat) (lb : Array Value) (eg : Enters g) (p : List V → Bool) (n : Nat) (w : World) (v : List V) (x : Value) (hx : VSl n w v x) (_hnw : n ≤ w.heap.size) (B : Nat) (_hB : B < w.heap.size) (hc : w.cell? ⟨B, 0, none⟩ = some (.func (.func g) #[] lb)) (hp : PredW w n g lb p v) :
    Calls Tryz.prog 69 #[x, .pointer (some ⟨B, 0, none⟩)] w fun e w' => e = .returned (.bool (!p v)) ∧ Below w.heap.size w w' := by
  have HP := Lib.hid (hp w x (Below.refl _ w) hx)
  obtain ⟨px, cx, rfl⟩ := hx.shape
  obtain ⟨b, hb⟩ : ∃ b, b = p v := ⟨_, rfl⟩
  rw [← hb] at HP ⊢
  clear hx hp hb
  go_enter Tryz.func69, Tryz.ntmps69
  go_wp2_with (go_at_fn g; ((with_reducible refine HP.out.mono ?_); rintro e w1 ⟨rfl, hb1⟩; have HB1 := Lib.hid hb1; clear hb1))
  go_ret
  exact ⟨rfl, HB1.out⟩
theorem allW_any (g : Nat) (lb : Array Value) (eg : Enters g) (p : List V → Bool) (n : Nat) (w : World) (l : List (List V)) (lv : Value) (hx : WSl n w l lv) (hl : l.length ≤ 1048576) (hnw : n ≤ w.heap.size) (hp : ∀ v ∈ l, PredW w n g lb p v) :
    Calls Tryz.prog 45 #[lv, .func (.func g) #[] lb] w fun e w' => e = .returned (.bool (l.all p)) ∧ Below w.heap.size w w' := by
  obtain ⟨w1, hw1⟩ : ∃ w1, w1 = w.alloc (.cells #[.func (.func g) #[] lb] 62) := ⟨_, rfl⟩
  have hb1 : Below w.heap.size w w1 := by rw [hw1]; exact (Below.refl _ w).alloc (Nat.le_refl _) _
  have hs1 : w1.heap.size = w.heap.size + 1 := by rw [hw1]; simp
  have hc1 : w1.cell? ⟨w.heap.size, 0, none⟩ = some (.func (.func g) #[] lb) := by rw [hw1]; simp [go_sem]
  have HC := Lib.hid (contW_any 69 #[.pointer (some ⟨w.heap.size, 0, none⟩)] (enters_of Tryz.func69 (by kernel_rfl) rfl) (fun v => !p v) n w1 l lv (hx.below (hb1.mono hnw)) hl (by omega)
    (fun v hv w' x hb ha => notW_any g lb eg p n w' v x ha (by have := hb.size; omega) w.heap.size (by have := hb.size; omega) ((hb.cell (p := ⟨w.heap.size, 0, none⟩) (show w.heap.size < w1.heap.size by omega)).trans hc1) ((hp v hv).later (hb1.trans (hb.mono (by omega))))))
  have HR := Lib.hid (any_not p l)
  obtain ⟨b, hb⟩ : ∃ b, b = (l.any fun x => !p x) := ⟨_, rfl⟩
  rw [← hb] at HC HR
  rw [← HR.out]
  subst hw1
  clear hx hp hb hb1 hs1 hc1
  go_enter Tryz.func45, Tryz.ntmps45
  go_wp2_with (go_at_call 68; ((with_reducible refine HC.out.mono ?_); rintro e w1 ⟨rfl, hb1⟩; have HB1 := Lib.hid (Below.trans ((Below.refl w.heap.size w).alloc (Nat.le_refl _) _) (hb1.mono (by simp))); clear hb1))
  go_ret
  exact ⟨rfl, HB1.out⟩
end Go.Proofs.YtjkallelniggpaaGreatDoor
namespace Go.Proofs.YtjkallelniggpaaGreatDoor
open Go.RowKit Word Txt
attribute [local go_sem] setCell_drewN cell?_ext frozen?_ext shape?_ext setCell_ext lt_1' ne_1' en_1' le_1' lt_2' ne_2' en_2' le_2' lt_3' ne_3' en_3' le_3' lt_4' ne_4' en_4' le_4' lt_5' ne_5' en_5' le_5' lt_6' ne_6' en_6' le_6' lt_7' ne_7' en_7' le_7' lt_8' ne_8' en_8' le_8' lt_9' ne_9' en_9' le_9' lt_10' ne_10' en_10' le_10' lt_11' ne_11' en_11' le_11' lt_12' ne_12' en_12' le_12'

/-- are all accepted? -/
noncomputable def okB (l : List V) : Bool := l.all fun v => decide (v.code = 0)
set_option maxRecDepth 100000 in
theorem chkV_any (v : V) (n : Nat) (w : World) (x : Value) (hx : v.At n w x) (hnw : n ≤ w.heap.size) (hT : Tens w) (hU : Tabs w) :
    Calls Tryz.prog 51 #[x] w fun e w' => e = .returned (.bool (decide (v.code = 0))) ∧ Below w.heap.size w w' := by
  have HP := Lib.hid (fun bx => vcheck_any v n (w.alloc bx) x (hx.below ((Below.refl _ w).alloc hnw bx)) (by simp; omega) (hT.below ((Below.refl _ w).alloc (Nat.le_refl _) bx)) (hU.below ((Below.refl _ w).alloc (Nat.le_refl _) bx)))
  obtain ⟨k, yes, neg, c, s, t, day, l, ns, hv⟩ : ∃ k yes neg c s t day l ns, v = V.mk k yes neg c s t day l ns := by cases v; exact ⟨_, _, _, _, _, _, _, _, _, rfl⟩
  obtain ⟨pl, nl, cl, pn, nn, cn, rfl⟩ : ∃ pl nl cl pn nn cn, x = VC k yes neg c s t day (.slice pl nl cl) (.slice pn nn cn) := by
    rw [hv] at hx
    obtain ⟨lv, nv, rfl, _, hL, hN, _⟩ := at_mk hx
    obtain ⟨pl, cl, rfl⟩ := hL.shape
    obtain ⟨pn, cn, rfl⟩ := hN.shape
    exact ⟨_, _, _, _, _, _, rfl⟩
  obtain ⟨z, hz⟩ : ∃ z, z = v.code := ⟨_, rfl⟩
  obtain ⟨b, hb⟩ : ∃ b, b = decide (z = 0) := ⟨_, rfl⟩
  rw [← hz] at HP ⊢
  rw [← hb]
  have hb2 : (z == 0) = b := by rw [hb]; by_cases h : z = 0 <;> simp [h]
  clear hx hv hz hb hT hU
  go_enter Tryz.func51, Tryz.ntmps51
  go_wp2_with (go_at_call 18; ((with_reducible refine (HP.out _).mono ?_); rintro e w1 ⟨rfl, hb1⟩; have HB1 := Lib.hid (Below.trans ((Below.refl w.heap.size w).alloc (Nat.le_refl _) _) (hb1.mono (by simp))); clear hb1))
  go_ret
  exact ⟨rfl, HB1.out⟩
theorem chkP (n : Nat) (w : World) (hnw : n ≤ w.heap.size) (hT : Tens w) (hU : Tabs w) (v : V) : PredV w n 51 #[] (fun v => decide (v.code = 0)) v := fun w' x hb ha => by
  have := chkV_any v n w' x ha (Nat.le_trans hnw hb.size) (hT.below hb) (hU.below hb)
  simpa using this
theorem checked_any (n : Nat) (w : World) (l : List V) (lv : Value) (hx : VSl n w l lv) (hl : l.length ≤ 1048576) (hnw : n ≤ w.heap.size) (hT : Tens w) (hU : Tabs w) :
    Calls Tryz.prog 25 #[lv] w fun e w' => e = .returned (.bool (okB l)) ∧ Below w.heap.size w w' := by
  have HA := Lib.hid (allV_any 51 #[] (enters_of Tryz.func51 (by kernel_rfl) rfl) (fun v => decide (v.code = 0)) n w l lv hx hl hnw (fun v _ => chkP n w hnw hT hU v))
  obtain ⟨b, hb⟩ : ∃ b, b = okB l := ⟨_, rfl⟩
  have hb2 : (l.all fun v => decide (v.code = 0)) = b := by rw [hb]; rfl
  rw [hb2] at HA
  rw [← hb]
  clear hx hT hU hb hb2
  go_enter Tryz.func25, Tryz.ntmps25
  go_wp2_with (go_at_call 50; ((with_reducible refine HA.out.mono ?_); rintro e w1 ⟨rfl, hb1⟩; have HB1 := Lib.hid hb1; clear hb1))
  go_ret
  exact ⟨rfl, HB1.out⟩
theorem sz1_any (n : Nat) (w : World) (l : List V) (lv : Value) (hx : VSl n w l lv) (hl : l.length ≤ 1048576) (hnw : n ≤ w.heap.size) (hT : Tens w) (hU : Tabs w) :
    Calls Tryz.prog 46 #[lv] w fun e w' => e = .returned (.bool (decide (l.length ≤ 60) && okB l)) ∧ Below w.heap.size w w' := by
  have HC := Lib.hid (checked_any n w l lv hx hl hnw hT hU)
  obtain ⟨p, c, rfl⟩ := hx.shape
  obtain ⟨b, hb⟩ : ∃ b, b = okB l := ⟨_, rfl⟩
  obtain ⟨m, hm⟩ : ∃ m, m = l.length := ⟨_, rfl⟩
  rw [← hb, ← hm] at HC
  rw [← hb, ← hm]
  clear hx hT hU hb hm
  by_cases h : m ≤ 60
  · have h2 : (m : Int) ≤ 60 := by omega
    rw [decide_eq_true h, Bool.true_and]
    clear h
    go_enter Tryz.func46, Tryz.ntmps46
    go_wp2_with (go_at_call 25; ((with_reducible refine HC.out.mono ?_); rintro e w1 ⟨rfl, hb1⟩; have HB1 := Lib.hid hb1; clear hb1))
    go_ret
    exact ⟨rfl, HB1.out⟩
  · have h2 : ¬ (m : Int) ≤ 60 := by omega
    rw [decide_eq_false h, Bool.false_and]
    clear h
    go_enter Tryz.func46, Tryz.ntmps46
    go_wp2
    go_ret
    exact ⟨rfl, Below.refl _ _⟩
theorem sz2_any (n : Nat) (w : World) (l : List V) (lv : Value) (hx : VSl n w l lv) (hl : l.length ≤ 1048576) (hnw : n ≤ w.heap.size) (hT : Tens w) (hU : Tabs w) (B : Nat) (q : Option Addr) (no co : Nat) (hc : w.cell? ⟨B, 0, none⟩ = some (.slice q no co)) :
    Calls Tryz.prog 47 #[lv, .pointer (some ⟨B, 0, none⟩)] w fun e w' => e = .returned (.bool (decide (l.length = no) && okB l)) ∧ Below w.heap.size w w' := by
  have HC := Lib.hid (checked_any n w l lv hx hl hnw hT hU)
  obtain ⟨p, c, rfl⟩ := hx.shape
  obtain ⟨b, hb⟩ : ∃ b, b = okB l := ⟨_, rfl⟩
  obtain ⟨m, hm⟩ : ∃ m, m = l.length := ⟨_, rfl⟩
  rw [← hb, ← hm] at HC
  rw [← hb, ← hm]
  clear hx hT hU hb hm
  by_cases h : m = no
  · subst h
    rw [decide_eq_true rfl, Bool.true_and]
    go_enter Tryz.func47, Tryz.ntmps47
    go_wp2_with (go_at_call 25; ((with_reducible refine HC.out.mono ?_); rintro e w1 ⟨rfl, hb1⟩; have HB1 := Lib.hid hb1; clear hb1))
    go_ret
    exact ⟨rfl, HB1.out⟩
  · have h2 : ((m : Int) == (no : Int)) = false := beq_eq_false_iff_ne.2 (by omega)
    have h3 : ¬ (m : Int) = (no : Int) := by omega
    rw [decide_eq_false h, Bool.false_and]
    go_enter Tryz.func47, Tryz.ntmps47
    go_wp2
    go_ret
    exact ⟨rfl, Below.refl _ _⟩
/-- are order and rows not too much, and in form? -/
noncomputable def sizedB (O R : List (List V)) : Bool := decide (O.length ≤ 8) && (decide (R.length ≤ 60) && ((O.all fun l => decide (l.length ≤ 60) && okB l) && (R.all fun l => decide (l.length = O.length) && okB l)))
/-- all lists are of small bulk -/
def Few (R : List (List V)) : Prop := R.length ≤ 1048576 ∧ ∀ l ∈ R, l.length ≤ 1048576
set_option maxRecDepth 100000 in
theorem sized_any (n : Nat) (w : World) (O R : List (List V)) (ov rv : Value) (hO : WSl n w O ov) (hR : WSl n w R rv) (fO : Few O) (fR : Few R) (hnw : n ≤ w.heap.size) (hT : Tens w) (hU : Tabs w) :
    Calls Tryz.prog 23 #[ov, rv] w fun e w' => e = .returned (.bool (sizedB O R)) ∧ Below w.heap.size w w' := by
  obtain ⟨po, co, rfl⟩ := hO.shape
  obtain ⟨pr, cr, rfl⟩ := hR.shape
  have H1 := Lib.hid (show ∀ w1, Below w.heap.size w w1 → Calls Tryz.prog 45 #[.slice po O.length co, .func (.func 46) #[] #[]] w1 fun e w' => e = .returned (.bool (O.all fun l => decide (l.length ≤ 60) && okB l)) ∧ Below w1.heap.size w1 w' from fun w1 hb =>
    allW_any 46 #[] (enters_of Tryz.func46 (by kernel_rfl) rfl) (fun l => decide (l.length ≤ 60) && okB l) n w1 O _ (hO.below (hb.mono hnw)) fO.1 (Nat.le_trans hnw hb.size) (fun l hl w' x hb' ha => by
      have := sz1_any n w' l x ha (fO.2 l hl) (Nat.le_trans (Nat.le_trans hnw hb.size) hb'.size) ((hT.below hb).below hb') ((hU.below hb).below hb')
      simpa using this))
  have H2 := Lib.hid (show ∀ w1, Below w.heap.size w w1 → w.heap.size < w1.heap.size → w1.cell? ⟨w.heap.size, 0, none⟩ = some (.slice po O.length co) → Calls Tryz.prog 45 #[.slice pr R.length cr, .func (.func 47) #[] #[.pointer (some ⟨w.heap.size, 0, none⟩)]] w1 fun e w' => e = .returned (.bool (R.all fun l => decide (l.length = O.length) && okB l)) ∧ Below w1.heap.size w1 w' from fun w1 hb hlt hc =>
    allW_any 47 #[.pointer (some ⟨w.heap.size, 0, none⟩)] (enters_of Tryz.func47 (by kernel_rfl) rfl) (fun l => decide (l.length = O.length) && okB l) n w1 R _ (hR.below (hb.mono hnw)) fR.1 (Nat.le_trans hnw hb.size) (fun l hl w' x hb' ha =>
      sz2_any n w' l x ha (fR.2 l hl) (Nat.le_trans (Nat.le_trans hnw hb.size) hb'.size) ((hT.below hb).below hb') ((hU.below hb).below hb') w.heap.size po O.length co ((hb'.cell (p := ⟨w.heap.size, 0, none⟩) hlt).trans hc)))
  have HS := Lib.hid (show sizedB O R = (decide (O.length ≤ 8) && (decide (R.length ≤ 60) && ((O.all fun l => decide (l.length ≤ 60) && okB l) && (R.all fun l => decide (l.length = O.length) && okB l)))) from rfl)
  obtain ⟨S, hS⟩ : ∃ S, S = sizedB O R := ⟨_, rfl⟩
  rw [← hS] at HS ⊢
  obtain ⟨b1, hb1⟩ : ∃ b, b = (O.all fun l => decide (l.length ≤ 60) && okB l) := ⟨_, rfl⟩
  obtain ⟨b2, hb2⟩ : ∃ b, b = (R.all fun l => decide (l.length = O.length) && okB l) := ⟨_, rfl⟩
  rw [← hb1] at H1 HS
  rw [← hb2] at H2 HS
  obtain ⟨mo, hmo⟩ : ∃ m, m = O.length := ⟨_, rfl⟩
  obtain ⟨mr, hmr⟩ : ∃ m, m = R.length := ⟨_, rfl⟩
  rw [← hmo] at H1 H2 HS ⊢
  rw [← hmr] at H2 HS ⊢
  clear hO hR fO fR hT hU hS hb1 hb2 hmo hmr
  by_cases h1 : mo ≤ 8
  · have h1i : (mo : Int) ≤ 8 := by omega
    by_cases h2 : mr ≤ 60
    · have h2i : (mr : Int) ≤ 60 := by omega
      cases b1
      · have HS2 := Lib.hid (show S = false from by rw [HS.out, decide_eq_true h1, decide_eq_true h2]; rfl)
        clear h1 h2 HS
        go_enter Tryz.func23, Tryz.ntmps23
        go_wp2_with (go_at_call 45; ((with_reducible refine (H1.out _ (by (repeat' (first | (with_reducible exact Below.refl _ _) | (with_reducible assumption) | (with_reducible refine Below.alloc ?_ ?_ _) | (with_reducible refine below_drewN ?_ _) | (with_reducible refine below_drew ?_) | (with_reducible refine below_ext ?_ ?_ _ _) | (with_reducible refine Below.setCell ?_ ?_ _) | (simp; done) | (simp; omega) | omega)))).mono ?_); rintro e w1 ⟨rfl, hb1⟩; have HB1 := Lib.hid (Below.trans ((Below.refl w.heap.size w).alloc (Nat.le_refl _) _) (hb1.mono (by simp))); clear hb1))
        go_ret
        exact ⟨by rw [HS2.out]; rfl, HB1.out⟩
      · have HC0 := Lib.hid (show ∀ t, (w.alloc (.cells #[.slice po mo co] t)).cell? ⟨w.heap.size, 0, none⟩ = some (.slice po mo co) from fun t => by simp [go_sem])
        have HS2 := Lib.hid (show S = b2 from by rw [HS.out, decide_eq_true h1, decide_eq_true h2]; simp)
        clear h1 h2 HS
        go_enter Tryz.func23, Tryz.ntmps23
        go_wp2_with (first
          | (go_at_call 45; ((with_reducible refine (H1.out _ (by (repeat' (first | (with_reducible exact Below.refl _ _) | (with_reducible assumption) | (with_reducible refine Below.alloc ?_ ?_ _) | (with_reducible refine below_drewN ?_ _) | (with_reducible refine below_drew ?_) | (with_reducible refine below_ext ?_ ?_ _ _) | (with_reducible refine Below.setCell ?_ ?_ _) | (simp; done) | (simp; omega) | omega)))).mono ?_); rintro e w1 ⟨rfl, hb1⟩; have hc1 := (hb1.cell (p := ⟨w.heap.size, 0, none⟩) (by simp)).trans (HC0.out _); have hlt1 : w.heap.size < w1.heap.size := Nat.lt_of_lt_of_le (by simp) hb1.size; have HB1 := Lib.hid (Below.trans ((Below.refl w.heap.size w).alloc (Nat.le_refl _) _) (hb1.mono (by simp))); clear hb1))
          | (go_at_call 45; ((with_reducible refine (H2.out _ HB1.out hlt1 hc1).mono ?_); rintro e w2 ⟨rfl, hb2⟩; have HB2 := Lib.hid (HB1.out.trans (hb2.mono HB1.out.size)); clear hb2)))
        go_ret
        exact ⟨by rw [HS2.out]; rfl, HB2.out⟩
    · have h2i : ¬ (mr : Int) ≤ 60 := by omega
      have HS2 := Lib.hid (show S = false from by rw [HS.out, decide_eq_true h1, decide_eq_false h2]; rfl)
      clear h1 h2 HS
      go_enter Tryz.func23, Tryz.ntmps23
      go_wp2
      go_ret
      exact ⟨by rw [HS2.out]; rfl, by (repeat' (first | (with_reducible exact Below.refl _ _) | (with_reducible assumption) | (with_reducible refine Below.alloc ?_ ?_ _) | (with_reducible refine below_drewN ?_ _) | (with_reducible refine below_drew ?_) | (with_reducible refine below_ext ?_ ?_ _ _) | (with_reducible refine Below.setCell ?_ ?_ _) | (simp; done) | (simp; omega) | omega))⟩
  · have h1i : ¬ (mo : Int) ≤ 8 := by omega
    have HS2 := Lib.hid (show S = false from by rw [HS.out, decide_eq_false h1]; rfl)
    clear h1 HS
    go_enter Tryz.func23, Tryz.ntmps23
    go_wp2
    go_ret
    exact ⟨by rw [HS2.out]; rfl, by (repeat' (first | (with_reducible exact Below.refl _ _) | (with_reducible assumption) | (with_reducible refine Below.alloc ?_ ?_ _) | (with_reducible refine below_drewN ?_ _) | (with_reducible refine below_drew ?_) | (with_reducible refine below_ext ?_ ?_ _ _) | (with_reducible refine Below.setCell ?_ ?_ _) | (simp; done) | (simp; omega) | omega))⟩
end Go.Proofs.YtjkallelniggpaaGreatDoor
namespace Go.Proofs.YtjkallelniggpaaGreatDoor
open Go.RowKit Word Txt
attribute [local go_sem] setCell_drewN cell?_ext frozen?_ext shape?_ext setCell_ext lt_1' ne_1' en_1' le_1' lt_2' ne_2' en_2' le_2' lt_3' ne_3' en_3' le_3' lt_4' ne_4' en_4' le_4' lt_5' ne_5' en_5' le_5' lt_6' ne_6' en_6' le_6' lt_7' ne_7' en_7' le_7' lt_8' ne_8' en_8' le_8' lt_9' ne_9' en_9' le_9' lt_10' ne_10' en_10' le_10' lt_11' ne_11' en_11' le_11' lt_12' ne_12' en_12' le_12'

/-- a slice of strings that is read -/
def SRdS (w : World) (v : Value) (ns : List ByteArray) : Prop := ∃ p c, v = .slice p ns.length c ∧ ns.length ≤ c ∧ (0 < ns.length → ∃ g o, p = some ⟨g, o, none⟩ ∧ g < w.heap.size ∧ ∀ j (h : j < ns.length), w.cell? ⟨g, o + j, none⟩ = some (.string ns[j]))
theorem SRdS.of {n : Nat} {w : World} {ns : List ByteArray} {p : Option Addr} {m c : Nat} (h : NSl n w ns (.slice p m c)) (hc : m ≤ c) : SRdS w (.slice p m c) ns := by
  rcases h with ⟨rfl, p2, c2, e⟩ | ⟨g, o, cap, e, h1, h2, h3⟩
  · injection e with e1 e2 e3
    exact ⟨p, c, by rw [e2]; rfl, Nat.zero_le _, fun h => absurd h (Nat.lt_irrefl 0)⟩
  · injection e with e1 e2 e3
    exact ⟨p, c, by rw [e2], by rw [← e2]; exact hc, fun _ => ⟨g, o, e1, h2, fun j hj => h3.get j hj⟩⟩
theorem SRdS.take {w : World} {ns : List ByteArray} {g o n c : Nat} (h : SRdS w (.slice (some ⟨g, o, none⟩) n c) ns) (k : Nat) (hk : k ≤ n) : SRdS w (.slice (some ⟨g, o, none⟩) k c) (ns.take k) := by
  obtain ⟨p, c2, e, hc, h2⟩ := h
  injection e with e1 e2 e3
  subst e1 e2 e3
  have hl : (ns.take k).length = k := by rw [List.length_take]; omega
  refine ⟨_, _, by rw [hl], by omega, fun h0 => ?_⟩
  rw [hl] at h0
  obtain ⟨g2, o2, e, hg, hcl⟩ := h2 (by omega)
  injection e with e
  cases e
  refine ⟨_, _, rfl, hg, fun j hj => ?_⟩
  rw [hl] at hj
  rw [hcl j (by omega), List.getElem_take]
set_option maxHeartbeats 4000000 in
theorem idxS_any (ns : List ByteArray) (x : ByteArray) (v : Value) (w : World) (h : SRdS w v ns) (hl : ns.length ≤ 1048576) :
    Calls Tryz.prog 73 #[v, .string x] w fun e w' => e = .returned (.int .i64 (idxP (fun s => decide (x = s)) ns)) ∧ w' = w := by
  obtain ⟨p, c, rfl, -, h2⟩ := h
  have H2 := Lib.hid h2
  obtain ⟨len, hln⟩ : ∃ len, ns.length = len := ⟨_, rfl⟩
  have HLN := Lib.hid hln
  rw [hln] at hl ⊢
  clear h2 hln
  go_enter Tryz.func73, Tryz.ntmps73
  go_wp2
  go_loopw [8] (fun i wr => ∃ m : Nat, m ≤ len ∧ i = .int .i64 m ∧ wr = w ∧ Hid (∀ i (h : i < ns.length), i < m → decide (x = ns[i]) = false)) (fun i _ => len - (intOf i).toNat)
  case atStart => exact ⟨0, by omega, rfl, rfl, Lib.hid (fun i _ h => by omega)⟩
  case round =>
    obtain ⟨m, hm, rfl, rfl, hs0⟩ := hrel
    by_cases hml : m < len
    · have hi : (m : Int) < len := by omega
      have h1 : m < ns.length := by have := HLN.out; omega
      obtain ⟨g, o, rfl, hg, hr⟩ := H2.out (by omega)
      have hci := hr m h1
      obtain ⟨y, hy⟩ : ∃ y, y = ns[m] := ⟨_, rfl⟩
      have HY := Lib.hid hy
      rw [← hy] at hci
      clear hr hy
      by_cases hxy : x = y
      · have HR := Lib.hid (show idxP (fun s => decide (x = s)) ns = (m : Int) from idxP_some h1 (by rw [← HY.out]; exact decide_eq_true hxy) hs0.out)
        have hv : (x.toList == y.toList) = true := (Lib.bytes_beq_iff _ _).2 hxy
        clear hxy hs0
        go_wp2
        go_ret
        exact ⟨by rw [HR.out]; rfl, by first | rfl | trivial⟩
      · have HN := Lib.hid (show ∀ i (h : i < ns.length), i < m + 1 → decide (x = ns[i]) = false from fun i hi h => by
          by_cases e : i = m
          · subst e; rw [← HY.out]; exact decide_eq_false hxy
          · exact hs0.out i hi (by omega))
        have hv : (x.toList == y.toList) = false := (Lib.bytes_beq_false_iff _ _).2 hxy
        clear hxy hs0
        go_wp2
        go_roundw
        case rel => exact ⟨m + 1, by omega, by go_num, by first | rfl | trivial, HN⟩
        case measure => simp [intOf]; omega
    · obtain rfl : m = len := by omega
      have hi : ¬ (m : Int) < m := by omega
      have HR := Lib.hid (show idxP (fun s => decide (x = s)) ns = -1 from idxP_none fun i hi => hs0.out i hi (by rw [HLN.out] at hi; exact hi))
      clear hs0
      go_wp2
      go_ret
      exact ⟨by rw [HR.out]; rfl, by first | rfl | trivial⟩
theorem contS_any (ns : List ByteArray) (x : ByteArray) (v : Value) (w : World) (h : SRdS w v ns) (hl : ns.length ≤ 1048576) :
    Calls Tryz.prog 49 #[v, .string x] w fun e w' => e = .returned (.bool (ns.any fun s => decide (x = s))) ∧ w' = w := by
  have HI := Lib.hid (idxS_any ns x v w h hl)
  have HR := Lib.hid (idxP_any (fun s => decide (x = s)) ns)
  obtain ⟨r, hr⟩ : ∃ r, r = idxP (fun s => decide (x = s)) ns := ⟨_, rfl⟩
  rw [← hr] at HI HR
  obtain ⟨b, hb⟩ : ∃ b, b = decide ((0 : Int) ≤ r) := ⟨_, rfl⟩
  rw [← hb] at HR
  rw [← HR.out]
  have HB := Lib.hid hb
  clear h hr hb
  go_enter Tryz.func49, Tryz.ntmps49
  go_wp2_with (go_at_call 73; ((with_reducible refine HI.out.mono ?_); rintro e w1 ⟨rfl, rfl⟩))
  go_ret
  exact ⟨by rw [HB.out]; rfl, by first | rfl | trivial⟩
open Classical in
theorem distB_iff {ns : List ByteArray} : distB ns = true ↔ ∀ j (h : j < ns.length), nameB ns[j] = true ∧ ns[j] ∉ ns.take j := by
  unfold distB
  rw [Bool.and_eq_true, decide_eq_true_iff, List.all_eq_true]
  constructor
  · rintro ⟨h1, h2⟩ j hj
    refine ⟨h1 _ (List.getElem_mem hj), fun hm => ?_⟩
    obtain ⟨i, hi, e⟩ := List.getElem_of_mem hm
    rw [List.length_take] at hi
    rw [List.getElem_take] at e
    have := (List.getElem_inj (h₀ := by omega) (h₁ := hj) h2).1 e
    omega
  · intro h
    refine ⟨fun x hx => ?_, ?_⟩
    · obtain ⟨j, hj, rfl⟩ := List.getElem_of_mem hx
      exact (h j hj).1
    · rw [List.nodup_iff_pairwise_ne, List.pairwise_iff_getElem]
      intro i j hi hj hij e
      exact (h j hj).2 (by rw [← e, List.mem_take_iff_getElem]; exact ⟨i, by omega, rfl⟩)
set_option maxHeartbeats 4000000 in
theorem dist_any (ns : List ByteArray) (v : Value) (w : World) (h : SRdS w v ns) (hl : ns.length ≤ 1048576) :
    Calls Tryz.prog 24 #[v] w fun e w' => e = .returned (.bool (distB ns)) ∧ w' = w := by
  have HS := Lib.hid h
  obtain ⟨p, c, rfl, hcap, h2⟩ := h
  have H2 := Lib.hid h2
  obtain ⟨len, hln⟩ : ∃ len, ns.length = len := ⟨_, rfl⟩
  have HLN := Lib.hid hln
  rw [hln] at hl hcap HS ⊢
  clear h2 hln
  go_enter Tryz.func24, Tryz.ntmps24
  go_wp2
  go_loopw [7] (fun i wr => ∃ m : Nat, m ≤ len ∧ i = .int .i64 m ∧ wr = w ∧ Hid (∀ j (h : j < ns.length), j < m → nameB ns[j] = true ∧ ns[j] ∉ ns.take j)) (fun i _ => len - (intOf i).toNat)
  case atStart => exact ⟨0, by omega, rfl, rfl, Lib.hid (fun i _ h => by omega)⟩
  case round =>
    obtain ⟨m, hm, rfl, rfl, hs0⟩ := hrel
    by_cases hml : m < len
    · have hi : (m : Int) < len := by omega
      have h1 : m < ns.length := by have := HLN.out; omega
      obtain ⟨g, o, rfl, hg, hr⟩ := H2.out (by omega)
      have hci := hr m h1
      have HC := Lib.hid (contS_any (ns.take m) ns[m] _ wr (HS.out.take m hm) (by rw [List.length_take]; omega))
      have HN := Lib.hid (name_is ns[m] wr)
      obtain ⟨y, hy⟩ : ∃ y, y = ns[m] := ⟨_, rfl⟩
      have HY := Lib.hid hy
      obtain ⟨b1, hb1⟩ : ∃ b, b = nameB y := ⟨_, rfl⟩
      obtain ⟨b2, hb2⟩ : ∃ b, b = ((ns.take m).any fun s => decide (y = s)) := ⟨_, rfl⟩
      rw [← hy] at hci HC HN
      rw [← hb1] at HN
      rw [← hb2] at HC
      have HB1 := Lib.hid hb1
      have HB2 := Lib.hid hb2
      have hmc : (m : Int) ≤ (c : Int) := by omega
      clear hr hy hb1 hb2
      cases b1
      · have HR := Lib.hid (show distB ns = false from by
          rw [Bool.eq_false_iff]
          intro h9
          have := (distB_iff.1 h9 m h1).1
          rw [← HY.out, ← HB1.out] at this
          cases this)
        clear hs0
        go_wp2_with (go_at_call 48; ((with_reducible refine HN.out.mono ?_); rintro e w1 ⟨rfl, rfl⟩))
        go_ret
        exact ⟨by rw [HR.out]; rfl, by first | rfl | trivial⟩
      · cases b2
        · have HNX := Lib.hid (show ∀ j (h : j < ns.length), j < m + 1 → nameB ns[j] = true ∧ ns[j] ∉ ns.take j from fun j hj h => by
            by_cases e : j = m
            · subst e
              rw [← HY.out]
              refine ⟨HB1.out.symm, fun hm => ?_⟩
              have := List.any_eq_false.1 HB2.out.symm y hm
              simp at this
            · exact hs0.out j hj (by omega))
          clear hs0
          go_wp2_with (first
            | (go_at_call 48; ((with_reducible refine HN.out.mono ?_); rintro e w1 ⟨rfl, rfl⟩))
            | (go_at_call 49; ((with_reducible refine HC.out.mono ?_); rintro e w1 ⟨rfl, rfl⟩)))
          go_roundw
          case rel => exact ⟨m + 1, by omega, by go_num, by first | rfl | trivial, HNX⟩
          case measure => simp [intOf]; omega
        · have HR := Lib.hid (show distB ns = false from by
            rw [Bool.eq_false_iff]
            intro h9
            have h8 := (distB_iff.1 h9 m h1).2
            rw [← HY.out] at h8
            obtain ⟨s, hs, e⟩ := List.any_eq_true.1 HB2.out.symm
            exact h8 (by rw [of_decide_eq_true e]; exact hs))
          clear hs0
          go_wp2_with (first
            | (go_at_call 48; ((with_reducible refine HN.out.mono ?_); rintro e w1 ⟨rfl, rfl⟩))
            | (go_at_call 49; ((with_reducible refine HC.out.mono ?_); rintro e w1 ⟨rfl, rfl⟩)))
          go_ret
          exact ⟨by rw [HR.out]; rfl, by first | rfl | trivial⟩
    · obtain rfl : m = len := by omega
      have hi : ¬ (m : Int) < m := by omega
      have HR := Lib.hid (show distB ns = true from distB_iff.2 fun j hj => hs0.out j hj (by rw [HLN.out] at hj; exact hj))
      clear hs0
      go_wp2
      go_ret
      exact ⟨by rw [HR.out]; rfl, by first | rfl | trivial⟩
end Go.Proofs.YtjkallelniggpaaGreatDoor
namespace Go.Proofs.YtjkallelniggpaaGreatDoor
open Go.RowKit Word Txt
attribute [local go_sem] setCell_drewN cell?_ext frozen?_ext shape?_ext setCell_ext lt_1' ne_1' en_1' le_1' lt_2' ne_2' en_2' le_2' lt_3' ne_3' en_3' le_3' lt_4' ne_4' en_4' le_4' lt_5' ne_5' en_5' le_5' lt_6' ne_6' en_6' le_6' lt_7' ne_7' en_7' le_7' lt_8' ne_8' en_8' le_8' lt_9' ne_9' en_9' le_9' lt_10' ne_10' en_10' le_10' lt_11' ne_11' en_11' le_11' lt_12' ne_12' en_12' le_12'

theorem SRdS.below {w w' : World} {v : Value} {ns : List ByteArray} (h : SRdS w v ns) (hb : Below w.heap.size w w') : SRdS w' v ns := by
  obtain ⟨p, c, e, hc, h2⟩ := h
  refine ⟨p, c, e, hc, fun h0 => ?_⟩
  obtain ⟨g, o, h3, hg, h4⟩ := h2 h0
  exact ⟨g, o, h3, Nat.lt_of_lt_of_le hg hb.size, fun j hj => (hb.cell (p := ⟨g, o + j, none⟩) hg).trans (h4 j hj)⟩
/-- is all in form? -/
noncomputable def formH (ns : List ByteArray) (O R : List (List V)) (T : List V) : Bool :=
  decide (0 < ns.length) && (decide (ns.length = O.length) && (sizedB O R && (distB ns && ((decide (T.length = 0) || decide (T.length = ns.length)) && okB T))))
set_option maxRecDepth 100000 in
set_option maxHeartbeats 4000000 in
theorem inForm_any (n : Nat) (w : World) (ns : List ByteArray) (O R : List (List V)) (T : List V) (nv ov rv tv : Value) (hN : SRdS w nv ns) (hO : WSl n w O ov) (hR : WSl n w R rv) (hX : VSl n w T tv) (fN : ns.length ≤ 1048576) (fO : Few O) (fR : Few R) (fT : T.length ≤ 1048576) (hnw : n ≤ w.heap.size) (hT : Tens w) (hU : Tabs w) :
    Calls Tryz.prog 16 #[nv, ov, rv, tv] w fun e w' => e = .returned (.bool (formH ns O R T)) ∧ Below w.heap.size w w' := by
  have HSZ := Lib.hid (sized_any n w O R ov rv hO hR fO fR hnw hT hU)
  have HDI := Lib.hid (show ∀ w1, Below w.heap.size w w1 → Calls Tryz.prog 24 #[nv] w1 fun e w' => e = .returned (.bool (distB ns)) ∧ w' = w1 from fun w1 hb => dist_any ns nv w1 (hN.below hb) fN)
  have HCK := Lib.hid (show ∀ w1, Below w.heap.size w w1 → Calls Tryz.prog 25 #[tv] w1 fun e w' => e = .returned (.bool (okB T)) ∧ Below w1.heap.size w1 w' from fun w1 hb => checked_any n w1 T tv (hX.below (hb.mono hnw)) fT (Nat.le_trans hnw hb.size) (hT.below hb) (hU.below hb))
  obtain ⟨pn, cn, rfl, -⟩ := hN
  obtain ⟨po, co, rfl⟩ := hO.shape
  obtain ⟨pr, cr, rfl⟩ := hR.shape
  obtain ⟨pt, ct, rfl⟩ := hX.shape
  have HF := Lib.hid (show formH ns O R T = (decide (0 < ns.length) && (decide (ns.length = O.length) && (sizedB O R && (distB ns && ((decide (T.length = 0) || decide (T.length = ns.length)) && okB T))))) from rfl)
  obtain ⟨F, hF⟩ : ∃ F, F = formH ns O R T := ⟨_, rfl⟩
  obtain ⟨b1, hb1⟩ : ∃ b, b = sizedB O R := ⟨_, rfl⟩
  obtain ⟨b2, hb2⟩ : ∃ b, b = distB ns := ⟨_, rfl⟩
  obtain ⟨b3, hb3⟩ : ∃ b, b = okB T := ⟨_, rfl⟩
  obtain ⟨mn, hmn⟩ : ∃ m, m = ns.length := ⟨_, rfl⟩
  obtain ⟨mo, hmo⟩ : ∃ m, m = O.length := ⟨_, rfl⟩
  obtain ⟨mr, hmr⟩ : ∃ m, m = R.length := ⟨_, rfl⟩
  obtain ⟨mt, hmt⟩ : ∃ m, m = T.length := ⟨_, rfl⟩
  rw [← hF, ← hb1, ← hb2, ← hb3, ← hmn, ← hmo, ← hmt] at HF
  rw [← hb1, ← hmo, ← hmr] at HSZ
  rw [← hb2, ← hmn] at HDI
  rw [← hb3, ← hmt] at HCK
  rw [← hF, ← hmn, ← hmo, ← hmr, ← hmt]
  clear hO hR hX fN fO fR fT hT hU hF hb1 hb2 hb3 hmn hmo hmr hmt
  by_cases h1 : 0 < mn
  · have h1i : (0 : Int) < (mn : Int) := by omega
    by_cases h2 : mn = mo
    · subst h2
      cases b1
      · have HS2 := Lib.hid (show F = false from by rw [HF.out, decide_eq_true h1, decide_eq_true rfl]; rfl)
        clear h1 HF
        go_enter Tryz.func16, Tryz.ntmps16
        go_wp2_with (go_at_call 23; ((with_reducible refine HSZ.out.mono ?_); rintro e w1 ⟨rfl, hb1⟩; have HB1 := Lib.hid hb1; clear hb1))
        go_ret
        exact ⟨by rw [HS2.out]; rfl, HB1.out⟩
      · cases b2
        · have HS2 := Lib.hid (show F = false from by rw [HF.out, decide_eq_true h1, decide_eq_true rfl]; rfl)
          clear h1 HF
          go_enter Tryz.func16, Tryz.ntmps16
          go_wp2_with (first
            | (go_at_call 23; ((with_reducible refine HSZ.out.mono ?_); rintro e w1 ⟨rfl, hb1⟩; have HB1 := Lib.hid hb1; clear hb1))
            | (go_at_call 24; ((with_reducible refine (HDI.out _ HB1.out).mono ?_); rintro e w2 ⟨rfl, rfl⟩)))
          go_ret
          exact ⟨by rw [HS2.out]; rfl, HB1.out⟩
        · by_cases h3 : mt = 0
          · subst h3
            have HS2 := Lib.hid (show F = b3 from by rw [HF.out, decide_eq_true h1, decide_eq_true rfl]; simp)
            clear h1 HF
            go_enter Tryz.func16, Tryz.ntmps16
            go_wp2_with (first
              | (go_at_call 23; ((with_reducible refine HSZ.out.mono ?_); rintro e w1 ⟨rfl, hb1⟩; have HB1 := Lib.hid hb1; clear hb1))
              | (go_at_call 24; ((with_reducible refine (HDI.out _ HB1.out).mono ?_); rintro e w2 ⟨rfl, rfl⟩))
              | (go_at_call 25; ((with_reducible refine (HCK.out _ HB1.out).mono ?_); rintro e w3 ⟨rfl, hb1⟩; have HB3 := Lib.hid (HB1.out.trans (hb1.mono HB1.out.size)); clear hb1)))
            go_ret
            exact ⟨by rw [HS2.out]; rfl, HB3.out⟩
          · have e3 : ((mt : Int) == 0) = false := beq_eq_false_iff_ne.2 (by omega)
            have e3' : ¬ (mt : Int) = 0 := by omega
            by_cases h4 : mt = mn
            · subst h4
              have HS2 := Lib.hid (show F = b3 from by rw [HF.out, decide_eq_true h1, decide_eq_true rfl]; simp)
              clear h1 h3 HF
              go_enter Tryz.func16, Tryz.ntmps16
              go_wp2_with (first
                | (go_at_call 23; ((with_reducible refine HSZ.out.mono ?_); rintro e w1 ⟨rfl, hb1⟩; have HB1 := Lib.hid hb1; clear hb1))
                | (go_at_call 24; ((with_reducible refine (HDI.out _ HB1.out).mono ?_); rintro e w2 ⟨rfl, rfl⟩))
                | (go_at_call 25; ((with_reducible refine (HCK.out _ HB1.out).mono ?_); rintro e w3 ⟨rfl, hb1⟩; have HB3 := Lib.hid (HB1.out.trans (hb1.mono HB1.out.size)); clear hb1)))
              go_ret
              exact ⟨by rw [HS2.out]; rfl, HB3.out⟩
            · have e4 : ((mt : Int) == (mn : Int)) = false := beq_eq_false_iff_ne.2 (by omega)
              have e4' : ¬ (mt : Int) = (mn : Int) := by omega
              have HS2 := Lib.hid (show F = false from by rw [HF.out, decide_eq_true h1, decide_eq_true rfl, decide_eq_false h3, decide_eq_false h4]; rfl)
              clear h1 h3 h4 HF
              go_enter Tryz.func16, Tryz.ntmps16
              go_wp2_with (first
                | (go_at_call 23; ((with_reducible refine HSZ.out.mono ?_); rintro e w1 ⟨rfl, hb1⟩; have HB1 := Lib.hid hb1; clear hb1))
                | (go_at_call 24; ((with_reducible refine (HDI.out _ HB1.out).mono ?_); rintro e w2 ⟨rfl, rfl⟩)))
              go_ret
              exact ⟨by rw [HS2.out]; rfl, HB1.out⟩
    · have e2 : ((mn : Int) == (mo : Int)) = false := beq_eq_false_iff_ne.2 (by omega)
      have e2' : ¬ (mn : Int) = (mo : Int) := by omega
      have HS2 := Lib.hid (show F = false from by rw [HF.out, decide_eq_true h1, decide_eq_false h2]; rfl)
      clear h1 h2 HF
      go_enter Tryz.func16, Tryz.ntmps16
      go_wp2
      go_ret
      exact ⟨by rw [HS2.out]; rfl, Below.refl _ _⟩
  · have h1i : ¬ (0 : Int) < (mn : Int) := by omega
    have HS2 := Lib.hid (show F = false from by rw [HF.out, decide_eq_false h1]; rfl)
    clear h1 HF
    go_enter Tryz.func16, Tryz.ntmps16
    go_wp2
    go_ret
    exact ⟨by rw [HS2.out]; rfl, Below.refl _ _⟩
/-- is it a policy? -/
def polB (p : Int) : Bool := decide (1 ≤ p) && decide (p ≤ 11)
theorem isPolicy_any (p : Int) (w : World) : Calls Tryz.prog 15 #[.int .i64 p] w fun e w' => e = .returned (.bool (polB p)) ∧ w' = w := by
  by_cases h1 : 1 ≤ p
  · by_cases h2 : p ≤ 11
    · have HS := Lib.hid (show polB p = true by unfold polB; rw [decide_eq_true h1, decide_eq_true h2]; rfl)
      go_enter Tryz.func15, Tryz.ntmps15
      go_wp2
      go_ret
      exact ⟨by rw [HS.out]; rfl, rfl⟩
    · have HS := Lib.hid (show polB p = false by unfold polB; rw [decide_eq_true h1, decide_eq_false h2]; rfl)
      go_enter Tryz.func15, Tryz.ntmps15
      go_wp2
      go_ret
      exact ⟨by rw [HS.out]; rfl, rfl⟩
  · have HS := Lib.hid (show polB p = false by unfold polB; rw [decide_eq_false h1]; rfl)
    go_enter Tryz.func15, Tryz.ntmps15
    go_wp2
    go_ret
    exact ⟨by rw [HS.out]; rfl, rfl⟩
end Go.Proofs.YtjkallelniggpaaGreatDoor
