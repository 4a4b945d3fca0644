/-
  Truths of three values: the program's and the document's.
  Two values are the same in every part.
  Are two values equal: true, false or null, as data.
-/
import Derived.Test.YtjkallelniggpaaGreatDoorValI
import Derived.Lib.SlicesS
namespace Go.Proofs.YtjkallelniggpaaGreatDoor
open Go.RowKit Word Txt
attribute [local go_sem] setCell_drewN cell?_ext frozen?_ext shape?_ext setCell_ext lt_1' ne_1' en_1' le_1' lt_2' ne_2' en_2' le_2' lt_3' ne_3' en_3' le_3' lt_4' ne_4' en_4' le_4' lt_5' ne_5' en_5' le_5' lt_6' ne_6' en_6' le_6' lt_7' ne_7' en_7' le_7' lt_8' ne_8' en_8' le_8' lt_9' ne_9' en_9' le_9' lt_10' ne_10' en_10' le_10' lt_11' ne_11' en_11' le_11' lt_12' ne_12' en_12' le_12'

/-- a truth, or null, as a value -/
abbrev TV (k : Int) (yes : Bool) : Value := .agg #[.int .i64 k, .bool yes, .bool false, .int .u64 0, .int .u64 0, .int .i64 0, .string ⟨#[]⟩, .int .i64 0, .slice none 0 0, .slice none 0 0]
/-- is it this truth? -/
def isB (k : Int) (yes b : Bool) : Bool := k == 1 && yes == b
def andK (k1 : Int) (y1 : Bool) (k2 : Int) (y2 : Bool) : Int := if (isB k1 y1 false || isB k2 y2 false) || (isB k1 y1 true && isB k2 y2 true) then 1 else 0
def andY (k1 : Int) (y1 : Bool) (k2 : Int) (y2 : Bool) : Bool := !(isB k1 y1 false || isB k2 y2 false) && (isB k1 y1 true && isB k2 y2 true)
def notK (k : Int) : Int := if k = 1 then 1 else 0
def notY (k : Int) (y : Bool) : Bool := k == 1 && !y
theorem truth_any (b : Bool) (w : World) : Calls Tryz.prog 14 #[.bool b] w fun e w' => e = .returned (TV 1 b) ∧ Below w.heap.size w w' := by
  go_enter Tryz.func14, Tryz.ntmps14
  go_wp2
  go_returns
  exact ⟨rfl, by (repeat' (first | (with_reducible exact Below.refl _ _) | (with_reducible assumption) | (with_reducible refine Below.alloc ?_ ?_ _) | (with_reducible refine below_drewN ?_ _) | (with_reducible refine below_drew ?_) | (with_reducible refine below_ext ?_ ?_ _ _) | (with_reducible refine Below.setCell ?_ ?_ _) | (simp; done) | (simp; omega) | omega))⟩
end Go.Proofs.YtjkallelniggpaaGreatDoor
namespace Go.Proofs.YtjkallelniggpaaGreatDoor
open Go.RowKit Word Txt
attribute [local go_sem] setCell_drewN cell?_ext frozen?_ext shape?_ext setCell_ext lt_1' ne_1' en_1' le_1' lt_2' ne_2' en_2' le_2' lt_3' ne_3' en_3' le_3' lt_4' ne_4' en_4' le_4' lt_5' ne_5' en_5' le_5' lt_6' ne_6' en_6' le_6' lt_7' ne_7' en_7' le_7' lt_8' ne_8' en_8' le_8' lt_9' ne_9' en_9' le_9' lt_10' ne_10' en_10' le_10' lt_11' ne_11' en_11' le_11' lt_12' ne_12' en_12' le_12'

mutual
/-- the same in every part -/
def V.eqb : V → V → Bool
  | .mk k yes neg c s t day l ns, .mk k' yes' neg' c' s' t' day' l' ns' =>
    k == k' && (yes == yes' && ((neg == neg' && (c == c' && s == s')) && (decide (t = t') && (day == day' && (decide (ns = ns') && eqbL l l')))))
def eqbL : List V → List V → Bool
  | [], [] => true
  | v :: r, v' :: r' => v.eqb v' && eqbL r r'
  | [], _ :: _ => false
  | _ :: _, [] => false
end
mutual
theorem eqb_refl : ∀ v : V, v.eqb v = true
  | .mk k yes neg c s t day l ns => by unfold V.eqb; simp [eqbL_refl l]
theorem eqbL_refl : ∀ l : List V, eqbL l l = true
  | [] => by unfold eqbL; rfl
  | v :: r => by unfold eqbL; rw [eqb_refl v, eqbL_refl r]; rfl
end
theorem eqbL_len : ∀ l l' : List V, eqbL l l' = true → l.length = l'.length
  | [], [], _ => rfl
  | [], _ :: _, h => by unfold eqbL at h; cases h
  | _ :: _, [], h => by unfold eqbL at h; cases h
  | _ :: r, _ :: r', h => by
    unfold eqbL at h
    simp only [Bool.and_eq_true] at h
    simp [eqbL_len r r' h.2]
/-- the first m are the same -/
def SameTo (ns ms : List ByteArray) (m : Nat) : Prop := ns.take m = ms.take m
theorem SameTo.step {ns ms : List ByteArray} {m : Nat} (h : SameTo ns ms m) (h1 : m < ns.length) (h2 : m < ms.length) (e : ns[m] = ms[m]) : SameTo ns ms (m + 1) := by
  unfold SameTo at h ⊢
  rw [List.take_add_one, List.take_add_one, List.getElem?_eq_getElem h1, List.getElem?_eq_getElem h2, h, e]
theorem neq_at {ns ms : List ByteArray} {m : Nat} (h1 : m < ns.length) (h2 : m < ms.length) (e : ns[m] ≠ ms[m]) : ns ≠ ms := by
  rintro rfl; exact e rfl
set_option maxHeartbeats 4000000 in
theorem seq_any (n : Nat) (ns ms : List ByteArray) (x y : Value) (w : World) (hx : NSl n w ns x) (hy : NSl n w ms y) (hl : ns.length ≤ 1048576) :
    Calls Tryz.prog 92 #[x, y] w fun e w' => e = .returned (.bool (decide (ns = ms))) ∧ Below w.heap.size w w' := by
  obtain ⟨px, cx, ex⟩ : ∃ p c, x = .slice p ns.length c := by
    rcases hx with ⟨rfl, p, c, rfl⟩ | ⟨g, o, cap, rfl, _⟩
    · exact ⟨p, c, rfl⟩
    · exact ⟨_, _, rfl⟩
  obtain ⟨py, cy, ey⟩ : ∃ p c, y = .slice p ms.length c := by
    rcases hy with ⟨rfl, p, c, rfl⟩ | ⟨g, o, cap, rfl, _⟩
    · exact ⟨p, c, rfl⟩
    · exact ⟨_, _, rfl⟩
  by_cases hlen : ns.length = ms.length
  · obtain ⟨len, hln⟩ : ∃ len, ns.length = len := ⟨_, rfl⟩
    have HLN := Lib.hid hln
    have HLM := Lib.hid (show ms.length = len by rw [← hlen, hln])
    subst ex ey
    rw [hln] at hx hl ⊢
    rw [← hlen, hln] at hy ⊢
    have HX := Lib.hid hx
    have HY := Lib.hid hy
    clear hx hy hlen hln
    go_enter Tryz.func92, Tryz.ntmps92
    go_wp2
    go_loopw [13] (fun i wr => ∃ m d' : Nat, m ≤ len ∧ i = .int .i64 m ∧ wr = w.drewN d' ∧ SameTo ns ms m) (fun i _ => len - (intOf i).toNat)
    case atStart => exact ⟨0, 0, by omega, rfl, rfl, rfl⟩
    case round =>
      obtain ⟨m, d', hm, rfl, rfl, hs0⟩ := hrel
      have HS := Lib.hid hs0
      clear hs0
      by_cases hml : m < len
      · have hi : (m : Int) < len := by omega
        have h1 : m < ns.length := by have := HLN.out; omega
        have h2 : m < ms.length := by have := HLM.out; omega
        obtain ⟨g, o, rfl, hg, hr⟩ : ∃ g o, px = some ⟨g, o, none⟩ ∧ g < w.heap.size ∧ NamesAt w g ns o := by
          rcases HX.out with ⟨h, _⟩ | ⟨g, o, cap, h, _, hg, hr⟩
          · rw [h] at h1; simp at h1
          · simp only [Value.slice.injEq] at h; exact ⟨g, o, h.1, hg, hr⟩
        obtain ⟨g', o', rfl, hg', hr'⟩ : ∃ g o, py = some ⟨g, o, none⟩ ∧ g < w.heap.size ∧ NamesAt w g ms o := by
          rcases HY.out with ⟨h, _⟩ | ⟨g, o, cap, h, _, hg, hr⟩
          · rw [h] at h2; simp at h2
          · simp only [Value.slice.injEq] at h; exact ⟨g, o, h.1, hg, hr⟩
        obtain ⟨a, ha⟩ : ∃ a, a = ns[m] := ⟨_, rfl⟩
        obtain ⟨b, hb⟩ : ∃ b, b = ms[m] := ⟨_, rfl⟩
        have c1 : w.cell? ⟨g, o + m, none⟩ = some (.string a) := by rw [ha]; exact hr.get m h1
        have c2 : w.cell? ⟨g', o' + m, none⟩ = some (.string b) := by rw [hb]; exact hr'.get m h2
        have HA := Lib.hid ha
        have HB := Lib.hid hb
        obtain ⟨v, hv⟩ : ∃ v, (a.toList == b.toList) = v := ⟨_, rfl⟩
        have HV := Lib.hid hv
        clear ha hb hr hr'
        cases v
        · have HR := Lib.hid (show decide (ns = ms) = false from decide_eq_false (neq_at h1 h2 (by rw [← HA.out, ← HB.out]; exact (Lib.bytes_beq_false_iff _ _).1 HV.out)))
          have hv2 : (a.toList != b.toList) = true := by rw [bne, hv]; rfl
          go_wp2
          go_region
          go_wp2
          go_ret
          exact ⟨by rw [HR.out]; rfl, by (repeat' (first | (with_reducible exact Below.refl _ _) | (with_reducible assumption) | (with_reducible refine Below.alloc ?_ ?_ _) | (with_reducible refine below_drewN ?_ _) | (with_reducible refine below_drew ?_) | (with_reducible refine below_ext ?_ ?_ _ _) | (with_reducible refine Below.setCell ?_ ?_ _) | (simp; done) | (simp; omega) | omega))⟩
        · have hv2 : (a.toList != b.toList) = false := by rw [bne, hv]; rfl
          go_wp2
          go_region
          go_wp2
          go_roundw
          case rel => exact ⟨m + 1, d' + 1, by omega, by go_num, rfl, HS.out.step h1 h2 (by rw [← HA.out, ← HB.out]; exact (Lib.bytes_beq_iff _ _).1 HV.out)⟩
          case measure => simp [intOf]; omega
      · obtain rfl : m = len := by omega
        have hi : ¬ (m : Int) < m := by omega
        have HR := Lib.hid (show decide (ns = ms) = true from decide_eq_true (by
          have h := HS.out
          unfold SameTo at h
          rwa [List.take_of_length_le (by rw [HLN.out]; exact Nat.le_refl _), List.take_of_length_le (by rw [HLM.out]; exact Nat.le_refl _)] at h))
        go_wp2
        go_ret
        exact ⟨by rw [HR.out]; rfl, by (repeat' (first | (with_reducible exact Below.refl _ _) | (with_reducible assumption) | (with_reducible refine Below.alloc ?_ ?_ _) | (with_reducible refine below_drewN ?_ _) | (with_reducible refine below_drew ?_) | (with_reducible refine below_ext ?_ ?_ _ _) | (with_reducible refine Below.setCell ?_ ?_ _) | (simp; done) | (simp; omega) | omega))⟩
  · have HR := Lib.hid (show decide (ns = ms) = false from decide_eq_false (fun e => hlen (by rw [e])))
    subst ex ey
    have hne : ((ns.length : Int) != (ms.length : Int)) = true := by simp [bne]; omega
    generalize ns.length = a at *
    generalize ms.length = b at *
    clear hx hy
    go_enter Tryz.func92, Tryz.ntmps92
    go_wp2
    go_ret
    exact ⟨by rw [HR.out]; rfl, by (repeat' (first | (with_reducible exact Below.refl _ _) | (with_reducible assumption) | (with_reducible refine Below.alloc ?_ ?_ _) | (with_reducible refine below_drewN ?_ _) | (with_reducible refine below_drew ?_) | (with_reducible refine below_ext ?_ ?_ _ _) | (with_reducible refine Below.setCell ?_ ?_ _) | (simp; done) | (simp; omega) | omega))⟩
/-- the contract of same, at a value -/
def SC (v : V) : Prop := ∀ (n : Nat) (w : World) (x : Value) (v' : V) (x' : Value), v.At n w x → v'.At n w x' → n ≤ w.heap.size →
  Calls Tryz.prog 80 #[x, x'] w fun e w' => e = .returned (.bool (v.eqb v')) ∧ Below w.heap.size w w'
theorem eqbL_get : ∀ {l l' : List V}, l.length = l'.length → (eqbL l l' = true ↔ ∀ i (h : i < l.length) (h' : i < l'.length), l[i].eqb l'[i] = true)
  | [], [], _ => by unfold eqbL; simp
  | [], _ :: _, h => by simp at h
  | _ :: _, [], h => by simp at h
  | v :: r, v' :: r', h => by
    have ih := eqbL_get (l := r) (l' := r') (by simpa using h)
    unfold eqbL
    rw [Bool.and_eq_true, ih]
    constructor
    · intro hh i h1 h2
      cases i with
      | zero => exact hh.1
      | succ j => exact hh.2 j (by simpa using h1) (by simpa using h2)
    · intro hh
      exact ⟨hh 0 (by simp) (by simp), fun i h1 h2 => hh (i + 1) (by simpa using h1) (by simpa using h2)⟩
set_option maxHeartbeats 8000000 in
set_option maxRecDepth 100000 in
theorem feq_any (n : Nat) (l l' : List V) (ih : ∀ v ∈ l, SC v) (w : World) (x y : Value) (hx : VSl n w l x) (hy : VSl n w l' y) (hl : l.length ≤ 1048576) (hnw : n ≤ w.heap.size) :
    Calls Tryz.prog 54 #[x, y, .func (.func 80) #[] #[]] w fun e w' => e = .returned (.bool (eqbL l l')) ∧ Below w.heap.size w w' := by
  obtain ⟨px, cx, ex⟩ : ∃ p c, x = .slice p l.length c := by
    rcases hx with ⟨rfl, p, c, rfl⟩ | ⟨g, o, cap, rfl, _⟩
    · exact ⟨p, c, rfl⟩
    · exact ⟨_, _, rfl⟩
  obtain ⟨py, cy, ey⟩ : ∃ p c, y = .slice p l'.length c := by
    rcases hy with ⟨rfl, p, c, rfl⟩ | ⟨g, o, cap, rfl, _⟩
    · exact ⟨p, c, rfl⟩
    · exact ⟨_, _, rfl⟩
  by_cases hlen : l.length = l'.length
  · have HG := Lib.hid (eqbL_get hlen)
    have HX := Lib.hid (fun (i : Nat) (hi : i < l.length) (hi' : i < l'.length) w' (hb : Below w.heap.size w w') (x x' : Value) (h : l[i].At n w' x) (h' : l'[i].At n w' x') => ih l[i] (List.getElem_mem hi) n w' x l'[i] x' h h' (Nat.le_trans hnw hb.size))
    obtain ⟨len, hln⟩ : ∃ len, l.length = len := ⟨_, rfl⟩
    have HLN := Lib.hid hln
    have HLM := Lib.hid (show l'.length = len by rw [← hlen, hln])
    subst ex ey
    rw [hln] at hx hl ⊢
    rw [← hlen, hln] at hy ⊢
    have HA := Lib.hid (fun w' (hb : Below w.heap.size w w') => hx.below (hb.mono hnw))
    have HB := Lib.hid (fun w' (hb : Below w.heap.size w w') => hy.below (hb.mono hnw))
    clear hx hy hlen hln ih
    go_enter Tryz.func54, Tryz.ntmps54
    go_wp2
    go_loopw [17] (fun i wr => ∃ m : Nat, m ≤ len ∧ i = .int .i64 m ∧ Below w.heap.size w wr ∧ ∀ i (h : i < l.length) (h' : i < l'.length), i < m → l[i].eqb l'[i] = true) (fun i _ => len - (intOf i).toNat)
    case atStart => exact ⟨0, by omega, rfl, Below.refl _ _, fun i _ _ h => by omega⟩
    case round =>
      obtain ⟨m, hm, rfl, hbw, hs0⟩ := hrel
      have HS := Lib.hid hs0
      have HBW := Lib.hid hbw
      have hsw := hbw.size
      clear hs0
      by_cases hml : m < len
      · have hi : (m : Int) < len := by omega
        have h1 : m < l.length := by have := HLN.out; omega
        have h2 : m < l'.length := by have := HLM.out; omega
        obtain ⟨g, o, rfl, hg, hr⟩ : ∃ g o, px = some ⟨g, o, none⟩ ∧ g < wr.heap.size ∧ RowAt n wr g l o := by
          rcases HA.out wr hbw with ⟨h, _⟩ | ⟨g, o, cap, h, _, hg, hr⟩
          · rw [h] at h1; simp at h1
          · simp only [Value.slice.injEq] at h; exact ⟨g, o, h.1, hg, hr⟩
        obtain ⟨g', o', rfl, hg', hr'⟩ : ∃ g o, py = some ⟨g, o, none⟩ ∧ g < wr.heap.size ∧ RowAt n wr g l' o := by
          rcases HB.out wr hbw with ⟨h, _⟩ | ⟨g, o, cap, h, _, hg, hr⟩
          · rw [h] at h2; simp at h2
          · simp only [Value.slice.injEq] at h; exact ⟨g, o, h.1, hg, hr⟩
        obtain ⟨k1, yes1, neg1, a1, b1, s1, t1, day1, pl1, nl1, cl1, pn1, nn1, cn1, u0, u1, u2, u3, u4, u5, u6, u7, u8, u9, hat1⟩ := hr.elem m h1
        obtain ⟨k2, yes2, neg2, a2, b2, s2, t2, day2, pl2, nl2, cl2, pn2, nn2, cn2, z0, z1, z2, z3, z4, z5, z6, z7, z8, z9, hat2⟩ := hr'.elem m h2
        have HE := Lib.hid (fun w' (hb2 : Below wr.heap.size wr w') => HX.out m h1 h2 w' (hbw.trans (hb2.mono hbw.size)) _ _ (hat1.below (hb2.mono (Nat.le_trans hnw hbw.size))) (hat2.below (hb2.mono (Nat.le_trans hnw hbw.size))))
        have hg1 : g < wr.heap.size + 1 := by omega
        have hg2 : g' < wr.heap.size + 1 := by omega
        obtain ⟨u, hu⟩ : ∃ u, u = l[m].eqb l'[m] := ⟨_, rfl⟩
        rw [← hu] at HE
        have HU := Lib.hid hu
        clear hat1 hat2 hu hbw HX hr hr' HA HB
        cases u
        · have HR := Lib.hid (show eqbL l l' = false by
            cases hq : eqbL l l'
            · rfl
            · have h9 := HG.out.1 hq m h1 h2
              rw [← HU.out] at h9; cases h9)
          go_wp2_with (first
            | (go_at_call 80; ((with_reducible refine (HE.out _ (by (repeat' (first | (with_reducible exact Below.refl _ _) | (with_reducible assumption) | (with_reducible refine Below.alloc ?_ ?_ _) | (with_reducible refine below_drewN ?_ _) | (with_reducible refine below_drew ?_) | (with_reducible refine below_ext ?_ ?_ _ _) | (with_reducible refine Below.setCell ?_ ?_ _) | (simp; done) | (simp; omega) | omega)))).mono ?_); rintro e w1 ⟨rfl, hb1⟩; obtain ⟨osA, dA, rfl⟩ := ext_of_below hb1; clear hb1)))
          go_ret
          exact ⟨by rw [HR.out]; rfl, HBW.out.trans (by (repeat' (first | (with_reducible exact Below.refl _ _) | (with_reducible assumption) | (with_reducible refine Below.alloc ?_ ?_ _) | (with_reducible refine below_drewN ?_ _) | (with_reducible refine below_drew ?_) | (with_reducible refine below_ext ?_ ?_ _ _) | (with_reducible refine Below.setCell ?_ ?_ _) | (simp; done) | (simp; omega) | omega)))⟩
        · go_wp2_with (first
            | (go_at_call 80; ((with_reducible refine (HE.out _ (by (repeat' (first | (with_reducible exact Below.refl _ _) | (with_reducible assumption) | (with_reducible refine Below.alloc ?_ ?_ _) | (with_reducible refine below_drewN ?_ _) | (with_reducible refine below_drew ?_) | (with_reducible refine below_ext ?_ ?_ _ _) | (with_reducible refine Below.setCell ?_ ?_ _) | (simp; done) | (simp; omega) | omega)))).mono ?_); rintro e w1 ⟨rfl, hb1⟩; obtain ⟨osA, dA, rfl⟩ := ext_of_below hb1; clear hb1)))
          go_roundw
          case rel => exact ⟨m + 1, by omega, by go_num, HBW.out.trans (by (repeat' (first | (with_reducible exact Below.refl _ _) | (with_reducible assumption) | (with_reducible refine Below.alloc ?_ ?_ _) | (with_reducible refine below_drewN ?_ _) | (with_reducible refine below_drew ?_) | (with_reducible refine below_ext ?_ ?_ _ _) | (with_reducible refine Below.setCell ?_ ?_ _) | (simp; done) | (simp; omega) | omega))), fun i h h' hi => by
            by_cases him : i = m
            · subst him; exact HU.out.symm
            · exact HS.out i h h' (by omega)⟩
          case measure => simp [intOf]; omega
      · obtain rfl : m = len := by omega
        have hi : ¬ (m : Int) < m := by omega
        have HR := Lib.hid (show eqbL l l' = true from HG.out.2 (fun i h h' => HS.out i h h' (by have := HLN.out; omega)))
        clear hbw
        go_wp2
        go_ret
        exact ⟨by rw [HR.out]; rfl, HBW.out⟩
  · have HR := Lib.hid (show eqbL l l' = false by
      cases hq : eqbL l l'
      · rfl
      · exact absurd (eqbL_len l l' hq) hlen)
    subst ex ey
    have hne : ((l.length : Int) != (l'.length : Int)) = true := by simp [bne]; omega
    generalize l.length = a at *
    generalize l'.length = b at *
    clear hx hy
    go_enter Tryz.func54, Tryz.ntmps54
    go_wp2
    go_ret
    exact ⟨by rw [HR.out]; rfl, by (repeat' (first | (with_reducible exact Below.refl _ _) | (with_reducible assumption) | (with_reducible refine Below.alloc ?_ ?_ _) | (with_reducible refine below_drewN ?_ _) | (with_reducible refine below_drew ?_) | (with_reducible refine below_ext ?_ ?_ _ _) | (with_reducible refine Below.setCell ?_ ?_ _) | (simp; done) | (simp; omega) | omega))⟩
theorem numE_hl (neg neg' : Bool) (c c' : Nat) (s s' : Int) : ((neg == neg') && (c == c' && s == s')) = ((neg == neg') && ((hi c == hi c') && ((lo c == lo c') && (s == s')))) := by
  by_cases h : c = c'
  · subst h; simp
  · have h1 : (c == c') = false := beq_eq_false_iff_ne.2 h
    have : ¬ (hi c = hi c' ∧ lo c = lo c') := by unfold hi lo; omega
    rw [h1]
    by_cases h2 : hi c = hi c' <;> by_cases h3 : lo c = lo c' <;> simp_all
theorem textE (t t' : ByteArray) : decide (t = t') = (t.toList == t'.toList) := by
  by_cases h : t = t'
  · subst h; simp
  · rw [decide_eq_false h, (Lib.bytes_beq_false_iff _ _).2 h]
set_option maxHeartbeats 8000000 in
set_option maxRecDepth 100000 in
theorem same_step (k : Int) (yes neg : Bool) (c : Nat) (s : Int) (t : ByteArray) (day : Int) (l : List V) (ns : List ByteArray) (ih : ∀ v ∈ l, SC v) : SC (.mk k yes neg c s t day l ns) := by
  intro n w x v' x' hx hx' hnw
  obtain ⟨k2, yes2, neg2, c2, s2, t2, day2, l2, ns2, hv'⟩ : ∃ k yes neg c s t day l ns, v' = V.mk k yes neg c s t day l ns := by cases v'; exact ⟨_, _, _, _, _, _, _, _, _, rfl⟩
  subst hv'
  obtain ⟨lv, nv, rfl, ⟨hc, ht, hl, hnl⟩, hL, hN, hsz⟩ := at_mk hx
  obtain ⟨lv2, nv2, rfl, ⟨hc2, ht2, hl2, hnl2⟩, hL2, hN2, hsz2⟩ := at_mk hx'
  have HL := Lib.hid (fun w' (hb : Below w.heap.size w w') => feq_any n l l2 ih w' lv lv2 (hL.below (hb.mono hnw)) (hL2.below (hb.mono hnw)) hl (Nat.le_trans hnw hb.size))
  have HN := Lib.hid (fun w' (hb : Below w.heap.size w w') => seq_any n ns ns2 nv nv2 w' (hN.below (hb.mono hnw)) (hN2.below (hb.mono hnw)) hnl)
  obtain ⟨pl, cl, rfl⟩ := hL.shape
  obtain ⟨pn, cn, rfl⟩ := hN.shape
  obtain ⟨pl2, cl2, rfl⟩ := hL2.shape
  obtain ⟨pn2, cn2, rfl⟩ := hN2.shape
  have hE : (V.mk k yes neg c s t day l ns).eqb (V.mk k2 yes2 neg2 c2 s2 t2 day2 l2 ns2) = (k == k2 && (yes == yes2 && (((neg == neg2) && ((hi c == hi c2) && ((lo c == lo c2) && (s == s2)))) && ((t.toList == t2.toList) && (day == day2 && (decide (ns = ns2) && eqbL l l2)))))) := by
    rw [← numE_hl, ← textE]; unfold V.eqb; rfl
  rw [hE]
  generalize l.length = ll at *
  generalize l2.length = ll2 at *
  generalize ns.length = nl at *
  generalize ns2.length = nl2 at *
  generalize eqbL l l2 = le at *
  generalize decide (ns = ns2) = ne at *
  clear hx hx' hc ht hl hnl hL hN hsz hc2 ht2 hl2 hnl2 hL2 hN2 hsz2 hE ih
  go_enter Tryz.func80, Tryz.ntmps80
  go_wp2_with (first
    | (go_at_call 92; ((with_reducible refine (HN.out _ (by (repeat' (first | (with_reducible exact Below.refl _ _) | (with_reducible assumption) | (with_reducible refine Below.alloc ?_ ?_ _) | (with_reducible refine below_drewN ?_ _) | (with_reducible refine below_drew ?_) | (with_reducible refine below_ext ?_ ?_ _ _) | (with_reducible refine Below.setCell ?_ ?_ _) | (simp; done) | (simp; omega) | omega)))).mono ?_); rintro e w1 ⟨rfl, hb1⟩; obtain ⟨osA, dA, rfl⟩ := ext_of_below hb1; clear hb1))
    | (go_at_call 54; ((with_reducible refine (HL.out _ (by (repeat' (first | (with_reducible exact Below.refl _ _) | (with_reducible assumption) | (with_reducible refine Below.alloc ?_ ?_ _) | (with_reducible refine below_drewN ?_ _) | (with_reducible refine below_drew ?_) | (with_reducible refine below_ext ?_ ?_ _ _) | (with_reducible refine Below.setCell ?_ ?_ _) | (simp; done) | (simp; omega) | omega)))).mono ?_); rintro e w1 ⟨rfl, hb1⟩; obtain ⟨osB, dB, rfl⟩ := ext_of_below hb1; clear hb1)))
  all_goals
    go_ret
    refine ⟨?_, by (repeat' (first | (with_reducible exact Below.refl _ _) | (with_reducible assumption) | (with_reducible refine Below.alloc ?_ ?_ _) | (with_reducible refine below_drewN ?_ _) | (with_reducible refine below_drew ?_) | (with_reducible refine below_ext ?_ ?_ _ _) | (with_reducible refine Below.setCell ?_ ?_ _) | (simp; done) | (simp; omega) | omega))⟩
    clear HL HN
    simp_all <;> (intros; omega)
mutual
theorem same_any : ∀ v : V, SC v
  | .mk k yes neg c s t day l ns => same_step k yes neg c s t day l ns (same_all l)
theorem same_all : ∀ (l : List V) (v : V), v ∈ l → SC v
  | [], _, h => by cases h
  | u :: r, v, h => (List.mem_cons.1 h).elim (fun e => e ▸ same_any u) (fun h => same_all r v h)
end
end Go.Proofs.YtjkallelniggpaaGreatDoor
namespace Go.Proofs.YtjkallelniggpaaGreatDoor
open Go.RowKit Word Txt

/-- a truth of three: what Kind and Yes of it are -/
abbrev P3 := Int × Bool
def and3 (p q : P3) : P3 := (andK p.1 p.2 q.1 q.2, andY p.1 p.2 q.1 q.2)
def not3 (p : P3) : P3 := (notK p.1, notY p.1 p.2)
/-- false, where one is; else null, where one is; else as it began -/
def all3 : P3 → List P3 → P3
  | o, [] => o
  | o, p :: r => if isB p.1 p.2 false = true then (1, false) else if isB p.1 p.2 true = true then all3 o r else all3 (0, false) r
/-- one of the three truths -/
def Pr (p : P3) : Prop := p = (1, true) ∨ p = (1, false) ∨ p = (0, false)
theorem and3_pr (p q : P3) : Pr (and3 p q) := by
  unfold and3 andK andY Pr
  cases isB p.1 p.2 false <;> cases isB q.1 q.2 false <;> cases isB p.1 p.2 true <;> cases isB q.1 q.2 true <;> simp
theorem isB_tt : isB 1 true true = true := rfl
theorem and3_false (q : P3) : and3 (1, false) q = (1, false) := rfl
theorem fold_false : ∀ ps : List P3, ps.foldl and3 (1, false) = (1, false)
  | [] => rfl
  | p :: r => by rw [List.foldl_cons, and3_false]; exact fold_false r
theorem and3_of (o p : P3) (ho : o = (1, true) ∨ o = (0, false)) : and3 o p = if isB p.1 p.2 false = true then (1, false) else if isB p.1 p.2 true = true then o else (0, false) := by
  have hx : isB p.1 p.2 false = true → isB p.1 p.2 true = true → False := by
    unfold isB; intro h1 h2; simp at h1 h2; rw [h1.2] at h2; exact absurd h2.2 (by simp)
  unfold and3 andK andY
  rcases ho with rfl | rfl <;> cases h1 : isB p.1 p.2 false <;> cases h2 : isB p.1 p.2 true <;> first | rfl | exact absurd h2 (by intro h; exact hx h1 h)
theorem fold_all : ∀ (ps : List P3) (o : P3), (o = (1, true) ∨ o = (0, false)) → ps.foldl and3 o = all3 o ps
  | [], _, _ => rfl
  | p :: r, o, ho => by
    rw [List.foldl_cons, and3_of o p ho]
    show _ = if isB p.1 p.2 false = true then (1, false) else if isB p.1 p.2 true = true then all3 o r else all3 (0, false) r
    by_cases h1 : isB p.1 p.2 false = true
    · rw [if_pos h1, if_pos h1, fold_false]
    · rw [if_neg h1, if_neg h1]
      by_cases h2 : isB p.1 p.2 true = true
      · rw [if_pos h2, if_pos h2, fold_all r o ho]
      · rw [if_neg h2, if_neg h2, fold_all r _ (.inr rfl)]
def V.names : V → List ByteArray
  | .mk _ _ _ _ _ _ _ _ ns => ns
def V.yes : V → Bool
  | .mk _ y .. => y
/-- the first place of a name -/
def idx : List ByteArray → ByteArray → Nat
  | [], _ => 0
  | x :: r, s => if x = s then 0 else idx r s + 1
mutual
/-- are two values equal: true, false, null -/
def V.eq3 : V → V → P3
  | .mk k yes neg c s t day l ns, v' =>
    if k = 0 ∨ v'.kind = 0 then (1, k == v'.kind)
    else if k ≠ v'.kind then (0, false)
    else if k = 5 then (if l.length = v'.kids.length then eqL (1, true) l v'.kids else (1, false))
    else if k = 6 then (if ns.length = v'.names.length then eqE (1, true) l ns v'.kids v'.names else (1, false))
    else (1, (V.mk k yes neg c s t day l ns).eqb v')
def eqL : P3 → List V → List V → P3
  | p, v :: r, v' :: r' => eqL (and3 p (v.eq3 v')) r r'
  | p, [], _ => p
  | p, _ :: _, [] => p
def eqE : P3 → List V → List ByteArray → List V → List ByteArray → P3
  | p, v :: r, s :: ns, l', ns' =>
    match l'[idx ns' s]? with
    | some u => eqE (and3 p (v.eq3 u)) r ns l' ns'
    | none => (1, false)
  | p, [], _, _, _ => p
  | p, _ :: _, [], _, _ => p
end
theorem eqL_nil (p : P3) (l' : List V) : eqL p [] l' = p := by unfold eqL; rfl
theorem eqL_cons (p : P3) (v v' : V) (r r' : List V) : eqL p (v :: r) (v' :: r') = eqL (and3 p (v.eq3 v')) r r' := by
  conv => lhs; unfold eqL
theorem eqL_drop (p : P3) (l l' : List V) (m : Nat) (h : m < l.length) (h' : m < l'.length) : eqL p (l.drop m) (l'.drop m) = eqL (and3 p (l[m].eq3 l'[m])) (l.drop (m + 1)) (l'.drop (m + 1)) := by
  rw [List.drop_eq_getElem_cons h, List.drop_eq_getElem_cons h', eqL_cons]
theorem eqE_nil (p : P3) (ns : List ByteArray) (l' : List V) (ns' : List ByteArray) : eqE p [] ns l' ns' = p := by unfold eqE; rfl
theorem eqE_cons (p : P3) (v : V) (r : List V) (s : ByteArray) (ns : List ByteArray) (l' : List V) (ns' : List ByteArray) : eqE p (v :: r) (s :: ns) l' ns' = match l'[idx ns' s]? with | some u => eqE (and3 p (v.eq3 u)) r ns l' ns' | none => (1, false) := by
  conv => lhs; unfold eqE
theorem eqE_in (p : P3) (l : List V) (ns : List ByteArray) (l' : List V) (ns' : List ByteArray) (m : Nat) (h : m < l.length) (hn : m < ns.length) (hi : idx ns' ns[m] < l'.length) :
    eqE p (l.drop m) (ns.drop m) l' ns' = eqE (and3 p (l[m].eq3 l'[idx ns' ns[m]])) (l.drop (m + 1)) (ns.drop (m + 1)) l' ns' := by
  rw [List.drop_eq_getElem_cons h, List.drop_eq_getElem_cons hn, eqE_cons, List.getElem?_eq_getElem hi]
theorem eqE_out (p : P3) (l : List V) (ns : List ByteArray) (l' : List V) (ns' : List ByteArray) (m : Nat) (h : m < l.length) (hn : m < ns.length) (hi : l'.length ≤ idx ns' ns[m]) :
    eqE p (l.drop m) (ns.drop m) l' ns' = (1, false) := by
  rw [List.drop_eq_getElem_cons h, List.drop_eq_getElem_cons hn, eqE_cons, List.getElem?_eq_none hi]
theorem eqL_pr : ∀ (l l' : List V) (p : P3), Pr p → Pr (eqL p l l')
  | [], l', p, h => by rw [eqL_nil]; exact h
  | _ :: _, [], p, h => by unfold eqL; exact h
  | v :: r, v' :: r', p, h => by rw [eqL_cons]; exact eqL_pr r r' _ (and3_pr _ _)
theorem eqE_pr : ∀ (l : List V) (ns : List ByteArray) (l' : List V) (ns' : List ByteArray) (p : P3), Pr p → Pr (eqE p l ns l' ns')
  | [], _, _, _, p, h => by rw [eqE_nil]; exact h
  | _ :: _, [], _, _, p, h => by unfold eqE; exact h
  | v :: r, s :: ns, l', ns', p, h => by
    rw [eqE_cons]
    cases l'[idx ns' s]? with
    | none => exact .inr (.inl rfl)
    | some u => exact eqE_pr r ns l' ns' _ (and3_pr _ _)
theorem eq3_pr (v v' : V) : Pr (v.eq3 v') := by
  cases v
  unfold V.eq3
  have hb : ∀ b : Bool, Pr (1, b) := fun b => by cases b; exact .inr (.inl rfl); exact .inl rfl
  split
  · exact hb _
  split
  · exact .inr (.inr rfl)
  split
  · split
    · exact eqL_pr _ _ _ (.inl rfl)
    · exact hb _
  split
  · split
    · exact eqE_pr _ _ _ _ _ (.inl rfl)
    · exact hb _
  · exact hb _
/-- the pairs' truths, one behind the other -/
def pairsL (l l' : List V) : List P3 := List.zipWith V.eq3 l l'
theorem eqL_fold : ∀ (l l' : List V) (p : P3), eqL p l l' = (pairsL l l').foldl and3 p
  | [], l', p => by rw [eqL_nil]; rfl
  | _ :: _, [], p => by unfold eqL; rfl
  | v :: r, v' :: r', p => by rw [eqL_cons, eqL_fold r r']; rfl
end Go.Proofs.YtjkallelniggpaaGreatDoor
