/-
  The contract of the document's Chars: the placesT at which characters begin, and the end.
-/
import Derived.Test.YtdmmpknpoephnaaDoorChars
import Derived.Test.YtdmmpknpoephnaaDoorBa
namespace Go.Proofs.YtdmmpknpoephnaaDoor
open Go.RowKit Txt
attribute [local go_sem] setCell_drewN cell?_ext frozen?_ext shape?_ext setCell_ext lt_1' ne_1' en_1' le_1' lt_2' ne_2' en_2' le_2' lt_3' ne_3' en_3' le_3' lt_4' ne_4' en_4' le_4' lt_5' ne_5' en_5' le_5' lt_6' ne_6' en_6' le_6' lt_7' ne_7' en_7' le_7' lt_8' ne_8' en_8' le_8' lt_9' ne_9' en_9' le_9' lt_10' ne_10' en_10' le_10' lt_11' ne_11' en_11' le_11' lt_12' ne_12' en_12' le_12'

/-- the placesT from one on at which characters begin -/
def placesFrom (s : ByteArray) : Nat → Nat → List Nat
  | 0, _ => []
  | f + 1, pos => if pos < s.size then pos :: placesFrom s f (pos + (Utf8.decode s pos).2) else []
theorem placesFrom_end (s : ByteArray) (f pos : Nat) (h : ¬ pos < s.size) : placesFrom s f pos = [] := by
  cases f with
  | zero => rfl
  | succ f => simp [placesFrom, h]
theorem placesFrom_len (s : ByteArray) : ∀ f pos, (placesFrom s f pos).length = Lib.runeCountFrom s f pos
  | 0, _ => rfl
  | f + 1, pos => by
    simp only [placesFrom, Lib.runeCountFrom]
    split
    · rw [List.length_cons, placesFrom_len s f]; omega
    · rfl
def placesT (s : ByteArray) : List Nat := placesFrom s s.size 0 ++ [s.size]
theorem places_len (s : ByteArray) : (placesT s).length = Lib.runeCount s + 1 := by
  unfold placesT; rw [List.length_append, placesFrom_len]; rfl
theorem placesFrom_at (s : ByteArray) : ∀ (f pos k : Nat), s.size ≤ pos + f → pos ≤ s.size → (placesFrom s f pos ++ [s.size])[k]? = if k ≤ Lib.runeCountFrom s f pos then some (placeFrom s f pos k) else none
  | 0, pos, k, hf, hp => by
    obtain rfl : pos = s.size := by omega
    have e : Lib.runeCountFrom s 0 s.size = 0 := rfl
    rw [e]
    cases k with
    | zero => rfl
    | succ k => rw [if_neg (by omega)]; rfl
  | f + 1, pos, k, hf, hp => by
    by_cases hlt : pos < s.size
    · have hw := width_pos s pos
      have hi := width_in s pos hlt
      simp only [placesFrom, Lib.runeCountFrom, placeFrom, if_pos hlt, List.cons_append]
      cases k with
      | zero => simp
      | succ k =>
        rw [List.getElem?_cons_succ, placesFrom_at s f _ k (by omega) hi]
        by_cases hk : k ≤ Lib.runeCountFrom s f (pos + (Utf8.decode s pos).2)
        · rw [if_pos hk, if_pos (by omega), if_neg (by omega), Nat.add_sub_cancel]
        · rw [if_neg hk, if_neg (by omega)]
    · obtain rfl : pos = s.size := by omega
      rw [placesFrom_end s _ _ hlt, Lib.runeCountFrom_end s _ _ hlt, placeFrom_end s _ _ _ hlt]
      cases k with
      | zero => rfl
      | succ k => rw [if_neg (by omega)]; rfl
theorem places_at (s : ByteArray) (k : Nat) (h : k ≤ Lib.runeCount s) : (placesT s)[k]? = some (place s k) := by
  have := placesFrom_at s s.size 0 k (by omega) (by omega)
  rw [if_pos (show k ≤ Lib.runeCountFrom s s.size 0 from h)] at this
  exact this
theorem places_le (s : ByteArray) (k : Nat) : place s k ≤ s.size := place_le s k
/-- the slice v holds these numbers in a row of the call's own -/
def pCellsN (l : List Nat) : List Value := l.map fun (n : Nat) => Value.int .i64 (n : Int)
theorem pCellsN_snoc (l : List Nat) (n : Nat) : pCellsN l ++ [.int .i64 (n : Int)] = pCellsN (l ++ [n]) := by simp [pCellsN]
theorem pInfoInt : (Tryd.prog.info? 3).map (fun i => (i.zero, i.size, i.bytes)) = some (some (.int .i64 0), 1, 8) := by kernel_rfl
abbrev PBuf (B : Nat) (v : Value) (l : List Nat) (W0 w : World) : Prop := Lib.OwnBuf B 3 v l.length (pCellsN l) W0 w
theorem PBuf.nil (W0 : World) {w : World} (hb : Below W0.heap.size W0 w) : PBuf W0.heap.size (.slice none 0 0) [] W0 w :=
  ⟨World.ownsRowF_of (World.ownsRow_nil _ _ _ _), hb, hb.size⟩
theorem PBuf.congr {B : Nat} {v : Value} {m : List Nat} {W0 w : World} {n : Nat} {xs : List Value} (h : Lib.OwnBuf B 3 v n xs W0 w) (hn : n = m.length) (hx : xs = pCellsN m) : PBuf B v m W0 w := by
  subst hn hx; exact h
theorem pAppend_int {ops : Array Oper} {rest : List Oper} {o : Oper} {a : Act} {Q : Exit → Act → World → Prop} (hgd : o.guard = none) (s x : Operand) (t : TypeId)
    (ho : o.op = .call { callee := .builtin .append, args := #[s, x], argTypes := #[t, t] })
    (B : Nat) (e : TypeId) (i : TypeInfo) (ht : Tryd.prog.underlying t = some (.slice e)) (hi : Tryd.prog.info? e = some i) (hz : i.zero = some (.int .i64 0)) (hsize : i.size = 1) (hby : i.bytes = 8)
    (v : Value) (n : Nat) (xs : List Value) (hs : a.eval s = v) (W0 w0 : World) (c : Int) (hb : Lib.OwnBuf B e v n xs W0 w0)
    (hx : a.eval x = .slice (some ⟨w0.heap.size, 0, none⟩) 1 1) (hlen : (n + 1) * 8 ≤ 140737488355328)
    (h : ∀ v' w', Lib.OwnBuf B e v' (n + 1) (xs ++ [.int .i64 c]) W0 w' → wpList Tryd.prog ops Q rest (a.put o.dst v') w') : wpList Tryd.prog ops Q (o :: rest) a (w0.alloc (.cells #[.int .i64 c] e)) := by
  have hb' := hb.alloc (.cells #[.int .i64 c] e)
  refine wpList_append_ownF _ hgd s x t ho B e i (.int .i64 0) 1 8 ht hi hz hsize hby rfl (by decide) v n xs hs hb'.1 ⟨w0.heap.size, 0, none⟩ 1 1 [.int .i64 c] hx rfl ?_ ?_ (by unfold maxLen; omega) hlen hb'.2.2 ?_
  · intro j u hj
    match j, hj with
    | 0, hj => simp at hj; subst hj; simp [Addr.add]
    | (j + 1), hj => simp at hj
  · intro u hu; simp at hu; subst hu; rfl
  · intro v' w' ho' hg _
    exact h v' w' (hb'.grown ho' hg)
set_option maxHeartbeats 4000000 in
theorem chars_text (s : ByteArray) (hs : s.size ≤ 1048576) (ht : isText s = true) (w : World) :
    Calls Tryd.prog 38 #[.string s] w fun e w' => ∃ v, e = .returned (.tuple #[v, .bool true]) ∧ PBuf w.heap.size v (placesT s) w w' := by
  obtain ⟨i0, hi, hz0, hz1, hz2⟩ := info_parts pInfoInt
  obtain ⟨B, hB⟩ : ∃ B, B = w.heap.size := ⟨_, rfl⟩
  obtain ⟨ALL, hALL⟩ : ∃ ALL, ALL = placesFrom s s.size 0 := ⟨_, rfl⟩
  have hal : ALL.length ≤ s.size := by rw [hALL, placesFrom_len]; exact Lib.runeCount_le s
  have HB := Lib.hid hB; have HA := Lib.hid hALL; have HT := Lib.hid ht
  clear hB hALL ht
  go_enter Tryd.func38, Tryd.ntmps38
  go_wp2
  go_loopw [4, 5] (fun v i wr => ∃ (pos b : Nat) (gs : List Nat), i = .int .i64 pos ∧ pos ≤ s.size ∧ s.size ≤ pos + b ∧ Hid (textFrom s b pos = true) ∧ Hid (gs ++ placesFrom s b pos = ALL) ∧ gs.length ≤ s.size ∧ Hid (PBuf B v gs w wr)) (fun _ i _ => s.size - (intOf i).toNat)
  case atStart => exact ⟨0, s.size, [], rfl, by omega, by omega, HT, Lib.hid (by rw [HA.out]; rfl), by simp, Lib.hid (by rw [HB.out]; exact PBuf.nil w (Below.refl _ _))⟩
  case round =>
    obtain ⟨pos, b, gs, rfl, hp, hb, htx, hgs, hgl, hbuf⟩ := hrel
    by_cases hlt : pos < s.size
    · obtain ⟨c, n, ok, hrel2, hone⟩ := one_ex s pos hlt (by omega)
      have hw := width_pos s pos
      have hwi := width_in s pos hlt
      obtain ⟨b', hb'⟩ : ∃ b', b = b' + 1 := ⟨b - 1, by omega⟩
      have hbb : s.size ≤ pos + (b' + 1) := by omega
      have htx2 := htx.out
      rw [hb', textFrom_step s b' pos hlt, Bool.and_eq_true] at htx2
      obtain ⟨hg, htx3⟩ := htx2
      have hgs2 := hgs.out
      rw [hb'] at hgs2
      simp only [placesFrom, if_pos hlt] at hgs2
      unfold Rel at hrel2
      rcases hrel2 with ⟨rfl, hok, -, hcn, hnn⟩ | ⟨hno, -⟩
      · obtain ⟨d, hd⟩ : ∃ d, d = (Utf8.decode s pos).2 := ⟨_, rfl⟩
        rw [← hd] at hw hwi htx3 hgs2 hnn
        have hC := char_any c
        rw [hok] at hC
        subst hnn
        have HONE := Lib.hid hone; have HCH := Lib.hid hC; have HTX := Lib.hid htx3; have HGS := Lib.hid hgs2
        have hgl2 : gs.length + 1 ≤ ALL.length := by rw [← hgs2]; simp
        clear hone hC hok hcn hd hg htx3 hgs2 htx hgs hb'
        have hbuf2 := hbuf.out
        go_wp2_with (first
          | (go_at_call 46; ((with_reducible refine (HONE.out _).mono ?_); rintro e w' ⟨rfl, rfl⟩))
          | (go_at_call 47; ((with_reducible refine (HCH.out _).mono ?_); rintro e w' ⟨rfl, rfl⟩))
          | (at_builtin; refine pAppend_int rfl _ _ 67 rfl B 3 i0 Tryd.underlying67 hi hz0 hz1 hz2 _ _ _ rfl w _ _ (by assumption) rfl (by omega) ?_; intro _ _ hb3))
        go_roundw
        case rel => exact ⟨pos + d, b', gs ++ [pos], by go_num, by omega, by omega, HTX, Lib.hid (by rw [← HGS.out, List.append_assoc]; rfl), by simp; omega, Lib.hid (PBuf.congr hb3 (by simp) (by rw [pCellsN_snoc]))⟩
        case measure => simp [intOf]; omega
      · rw [hno] at hg; cases hg
    · obtain rfl : pos = s.size := by omega
      have hgs3 : Hid (gs ++ [s.size] = placesT s) := Lib.hid (by
        have := hgs.out
        rw [placesFrom_end s b _ hlt, List.append_nil] at this
        rw [this, HA.out]; rfl)
      have hbuf2 := hbuf.out
      clear hbuf hgs htx
      go_wp2_with (at_builtin; refine pAppend_int rfl _ _ 67 rfl B 3 i0 Tryd.underlying67 hi hz0 hz1 hz2 _ _ _ rfl w _ _ (by assumption) rfl (by omega) ?_; intro _ _ hb3)
      go_ret2
      exact ⟨_, rfl, by rw [← HB.out]; exact PBuf.congr hb3 (by rw [← hgs3.out]; simp) (by rw [← hgs3.out, pCellsN_snoc])⟩
set_option maxHeartbeats 4000000 in
theorem chars_bad (s : ByteArray) (hs : s.size ≤ 1048576) (ht : isText s = false) (w : World) :
    Calls Tryd.prog 38 #[.string s] w fun e w' => e = .returned (.tuple #[.slice none 0 0, .bool false]) ∧ Below w.heap.size w w' := by
  obtain ⟨i0, hi, hz0, hz1, hz2⟩ := info_parts pInfoInt
  obtain ⟨B, hB⟩ : ∃ B, B = w.heap.size := ⟨_, rfl⟩
  have HB := Lib.hid hB; have HT := Lib.hid ht
  clear hB ht
  go_enter Tryd.func38, Tryd.ntmps38
  go_wp2
  go_loopw [4, 5] (fun v i wr => ∃ (pos b : Nat) (gs : List Nat), i = .int .i64 pos ∧ pos ≤ s.size ∧ s.size ≤ pos + b ∧ Hid (textFrom s b pos = false) ∧ gs.length ≤ pos ∧ Hid (PBuf B v gs w wr)) (fun _ i _ => s.size - (intOf i).toNat)
  case atStart => exact ⟨0, s.size, [], rfl, by omega, by omega, HT, by simp, Lib.hid (by rw [HB.out]; exact PBuf.nil w (Below.refl _ _))⟩
  case round =>
    obtain ⟨pos, b, gs, rfl, hp, hb, htx, hgl, hbuf⟩ := hrel
    by_cases hlt : pos < s.size
    · obtain ⟨c, n, ok, hrel2, hone⟩ := one_ex s pos hlt (by omega)
      have hw := width_pos s pos
      have hwi := width_in s pos hlt
      obtain ⟨b', hb'⟩ : ∃ b', b = b' + 1 := ⟨b - 1, by omega⟩
      have hbb : s.size ≤ pos + (b' + 1) := by omega
      have htx2 := htx.out
      rw [hb', textFrom_step s b' pos hlt] at htx2
      unfold Rel at hrel2
      have hbuf2 := hbuf.out
      rcases hrel2 with ⟨rfl, hok, hg, hcn, hnn⟩ | ⟨hno, hor⟩
      · obtain ⟨d, hd⟩ : ∃ d, d = (Utf8.decode s pos).2 := ⟨_, rfl⟩
        rw [hg, Bool.true_and] at htx2
        rw [← hd] at hw hwi htx2 hnn
        have hC := char_any c
        rw [hok] at hC
        subst hnn
        have HONE := Lib.hid hone; have HCH := Lib.hid hC; have HTX := Lib.hid htx2
        clear hone hC hok hcn hd hg htx2 htx hb'
        go_wp2_with (first
          | (go_at_call 46; ((with_reducible refine (HONE.out _).mono ?_); rintro e w' ⟨rfl, rfl⟩))
          | (go_at_call 47; ((with_reducible refine (HCH.out _).mono ?_); rintro e w' ⟨rfl, rfl⟩))
          | (at_builtin; refine pAppend_int rfl _ _ 67 rfl B 3 i0 Tryd.underlying67 hi hz0 hz1 hz2 _ _ _ rfl w _ _ (by assumption) rfl (by omega) ?_; intro _ _ hb3))
        go_roundw
        case rel => exact ⟨pos + d, b', gs ++ [pos], by go_num, by omega, by omega, HTX, by simp; omega, Lib.hid (PBuf.congr hb3 (by simp) (by rw [pCellsN_snoc]))⟩
        case measure => simp [intOf]; omega
      · have hC := char_any c
        have HONE := Lib.hid hone
        have HBEL : Hid (Below w.heap.size w wr) := Lib.hid (by have := hbuf2.2.1; rw [HB.out] at this; exact this)
        clear hone hno htx2 hb' hbuf2
        cases ok with
        | false =>
          clear hor hC
          go_wp2_with (go_at_call 46; ((with_reducible refine (HONE.out _).mono ?_); rintro e w' ⟨rfl, rfl⟩))
          go_ret2
          exact ⟨rfl, HBEL.out⟩
        | true =>
          have hok : okI c = false := by rcases hor with h | h
                                         · cases h
                                         · exact h
          rw [hok] at hC
          have HCH := Lib.hid hC
          clear hok hC hor
          go_wp2_with (first
            | (go_at_call 46; ((with_reducible refine (HONE.out _).mono ?_); rintro e w' ⟨rfl, rfl⟩))
            | (go_at_call 47; ((with_reducible refine (HCH.out _).mono ?_); rintro e w' ⟨rfl, rfl⟩)))
          go_ret2
          exact ⟨rfl, HBEL.out⟩
    · have := htx.out
      rw [textFrom_end s b pos hlt] at this
      cases this
theorem rvalid_any (s : ByteArray) (hs : s.size ≤ 1048576) (w : World) :
    Calls Tryd.prog 31 #[.string s] w fun e w' => e = .returned (.bool (isText s)) ∧ Below w.heap.size w w' := by
  cases ht : isText s with
  | true =>
    have HC := Lib.hid (chars_text s hs ht)
    clear ht
    go_enter Tryd.func31, Tryd.ntmps31
    go_wp2_with (go_at_call 38; ((with_reducible refine (HC.out _).mono ?_); rintro e w1 ⟨v, rfl, hb1⟩; replace hb1 := hb1.2.1; obtain ⟨osA, dA, rfl⟩ := ext_of_below hb1; clear hb1))
    go_ret
    exact ⟨rfl, by (repeat' (first | (with_reducible exact Below.refl _ _) | (with_reducible assumption) | (with_reducible refine Below.alloc ?_ ?_ _) | (with_reducible refine below_drewN ?_ _) | (with_reducible refine below_drew ?_) | (with_reducible refine below_ext ?_ ?_ _ _) | (with_reducible refine Below.setCell ?_ ?_ _) | (simp; done) | (simp; omega) | omega))⟩
  | false =>
    have HC := Lib.hid (chars_bad s hs ht)
    clear ht
    go_enter Tryd.func31, Tryd.ntmps31
    go_wp2_with (go_at_call 38; ((with_reducible refine (HC.out _).mono ?_); rintro e w1 ⟨rfl, hb1⟩; obtain ⟨osA, dA, rfl⟩ := ext_of_below hb1; clear hb1))
    go_ret
    exact ⟨rfl, by (repeat' (first | (with_reducible exact Below.refl _ _) | (with_reducible assumption) | (with_reducible refine Below.alloc ?_ ?_ _) | (with_reducible refine below_drewN ?_ _) | (with_reducible refine below_drew ?_) | (with_reducible refine below_ext ?_ ?_ _ _) | (with_reducible refine Below.setCell ?_ ?_ _) | (simp; done) | (simp; omega) | omega))⟩
theorem PBuf.form {B : Nat} {v : Value} {l : List Nat} {W0 w : World} (h : PBuf B v l W0 w) (hl : 0 < l.length) : ∃ g cap, v = .slice (some ⟨g, 0, none⟩) l.length cap ∧ ∀ (i n : Nat), l[i]? = some n → w.cell? ⟨g, i, none⟩ = some (.int .i64 (n : Int)) := by
  rcases h.1.2 with ⟨_, h0⟩ | ⟨g, cap, cur, fz, rfl, _⟩
  · omega
  · refine ⟨g, cap, rfl, fun i n hi => ?_⟩
    have := h.1.cells (g := g) (by simp [Value.ownBlock]) i (.int .i64 (n : Int)) (by simp [pCellsN, hi])
    by_cases hi0 : i = 0
    · subst hi0; simpa [Addr.add] using this
    · simpa [Addr.add, hi0] using this
/-- Chars of a text, as its callers read it: a row of the call's own with a place for each character, and the end -/
theorem chars_form (s : ByteArray) (hs : s.size ≤ 1048576) (ht : isText s = true) (A : Nat) (hA : A = Lib.runeCount s) (w : World) :
    Calls Tryd.prog 38 #[.string s] w fun e w' => ∃ (g cap : Nat) (os : Array Obj) (d : Nat), e = .returned (.tuple #[.slice (some ⟨g, 0, none⟩) (A + 1) cap, .bool true]) ∧ w' = ext w os d ∧ ∀ k, k ≤ A → (ext w os d).cell? ⟨g, k, none⟩ = some (.int .i64 (place s k : Int)) := by
  refine (chars_text s hs ht w).mono ?_
  rintro e w' ⟨v, rfl, hb⟩
  have hpl := places_len s
  obtain ⟨g, cap, rfl, hc⟩ := hb.form (by omega)
  obtain ⟨os, d, rfl⟩ := ext_of_below hb.2.1
  exact ⟨g, cap, os, d, by rw [hpl, hA], rfl, fun k hk => hc k _ (places_at s k (by omega))⟩
theorem place_mono (s : ByteArray) (ht : isText s = true) (a b : Nat) (hab : a ≤ b) (hb : b ≤ Lib.runeCount s) : ∃ n, Path s (place s a) n (place s b) ∧ n = b - a := by
  obtain ⟨N, hN, hc⟩ := path_of_text s s.size 0 (by omega) (by omega) ht
  have hN' : Lib.runeCount s = N := hc
  rw [hN'] at hb
  obtain ⟨r, h1, h2⟩ := hN.split b hb
  obtain ⟨q, h3, h4⟩ := h1.split a hab
  have e1 : place s b = r := h1.place s.size (by omega) h2.le
  have e2 : place s a = q := h3.place s.size (by omega) (by have := h4.le; have := h2.le; omega)
  rw [e1, e2]
  exact ⟨b - a, h4, rfl⟩
theorem slice_mid (s : ByteArray) (p q : Nat) (h : p ≤ q) (h2 : q ≤ s.size) : ∀ w, (Instr.slice 9 (.string s) (some (.int .i64 (p : Int))) (some (.int .i64 (q : Int))) none).run Tryd.prog w = .ok (.string (s.extract p q)) w :=
  fun w => by
    have := run_slice_string (P := Tryd.prog) (w := w) (t := 9) (s := s) (k := .i64) (k' := .i64) (i := (p : Int)) (j := (q : Int)) (h := Tryd.underlying9) (h0 := by omega) (h1 := by omega) (h2 := by omega)
    rw [Int.toNat_natCast, Int.toNat_natCast] at this
    exact this
end Go.Proofs.YtdmmpknpoephnaaDoor
