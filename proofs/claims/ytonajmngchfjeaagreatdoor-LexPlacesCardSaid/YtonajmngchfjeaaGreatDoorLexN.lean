/-
  The document's tokens of a text.
-/
import Derived.Test.YtonajmngchfjeaaGreatDoorLexK
import Derived.Test.YtonajmngchfjeaaGreatDoorBe
import Derived.Test.YtonajmngchfjeaaGreatDoorBg
namespace Go.Proofs.YtonajmngchfjeaaGreatDoor
open Go.RowKit Word Txt
open Lx (Tok)
attribute [local go_sem] setCell_drewN cell?_ext frozen?_ext shape?_ext setCell_ext lt_1' ne_1' en_1' le_1' lt_2' ne_2' en_2' le_2' lt_3' ne_3' en_3' le_3' lt_4' ne_4' en_4' le_4' lt_5' ne_5' en_5' le_5' lt_6' ne_6' en_6' le_6' lt_7' ne_7' en_7' le_7' lt_8' ne_8' en_8' le_8' lt_9' ne_9' en_9' le_9' lt_10' ne_10' en_10' le_10' lt_11' ne_11' en_11' le_11' lt_12' ne_12' en_12' le_12'

theorem infoTokR : (Tryz.prog.info? 35).map (fun i => (i.zero, i.size, i.bytes)) = some (some (.agg #[.int .i64 0, .string ⟨#[]⟩, .bool false, .int .u64 0, .int .u64 0, .int .i64 0, .int .i64 0, .int .i64 0]), 8, 72) := by kernel_rfl
theorem tkC_open (t : Tok) : ∃ kd tx ng x y sc dy az, tkC t = [.int .i64 kd, .string tx, .bool ng, .int .u64 x, .int .u64 y, .int .i64 sc, .int .i64 dy, .int .i64 az] := ⟨_, _, _, _, _, _, _, _, rfl⟩
theorem append_tok {ops : Array Oper} {rest : List Oper} {o : Oper} {a : Act} {Q : Exit → Act → World → Prop} (hgd : o.guard = none) (s x : Operand)
    (ho : o.op = .call { callee := .builtin .append, args := #[s, x], argTypes := #[23, 23] })
    {B : Nat} {v : Value} {ts : List Tok} (hs : a.eval s = v) (W0 w0 : World) (t : Tok) (kd : Int) (tx : ByteArray) (ng : Bool) (p q sc dy az : Int) (ht : tkC t = [.int .i64 kd, .string tx, .bool ng, .int .u64 p, .int .u64 q, .int .i64 sc, .int .i64 dy, .int .i64 az]) (hb : TB B v ts W0 w0)
    (b : Nat) (hbs : b = w0.heap.size) (hx : a.eval x = .slice (some ⟨b, 0, none⟩) 1 1) (hlen : ts.length ≤ 100000)
    (h : ∀ v' w', TB B v' (ts ++ [t]) W0 w' → wpList Tryz.prog ops Q rest (a.put o.dst v') w') : wpList Tryz.prog ops Q (o :: rest) a (w0.alloc (.cells #[.int .i64 kd, .string tx, .bool ng, .int .u64 p, .int .u64 q, .int .i64 sc, .int .i64 dy, .int .i64 az] 35)) := by
  subst hbs
  obtain ⟨i0, hi, hz0, hz1, hz2⟩ := info_parts infoTokR
  have hb' := hb.later ((Below.refl w0.heap.size w0).alloc (Nat.le_refl _) (.cells #[.int .i64 kd, .string tx, .bool ng, .int .u64 p, .int .u64 q, .int .i64 sc, .int .i64 dy, .int .i64 az] 35))
  refine wpList_append_own _ hgd s x 23 ho B 35 i0 _ 8 72 Tryz.underlying23 hi hz0 hz1 hz2 rfl (by decide) v ts.length (tkCs ts) hs hb'.1 ⟨w0.heap.size, 0, none⟩ 1 1 (tkC t) hx rfl ?_ ?_ (by unfold maxLen; omega) (by omega) hb'.2.2 ?_
  · rw [ht]
    exact World.news_of_block (cs := #[.int .i64 kd, .string tx, .bool ng, .int .u64 p, .int .u64 q, .int .i64 sc, .int .i64 dy, .int .i64 az]) (t := 35) (fr := (0, 0)) (by show (w0.heap.push _)[w0.heap.size]? = _; rw [Array.getElem?_push_size])
  · intro u hu
    rw [ht] at hu
    simp only [List.mem_cons, List.not_mem_nil, or_false] at hu
    rcases hu with rfl | rfl | rfl | rfl | rfl | rfl | rfl | rfl <;> rfl
  · intro v' w' ho' hg _
    rw [tkCs_snoc] at ho'
    refine h v' w' ⟨by rw [List.length_append]; exact ho', hb'.2.1.grown hg hb'.2.2 (fun k hk => (hb'.1.lt k hk).1), Nat.le_trans hb'.2.2 hg.size⟩
theorem bl_tests {c : UInt8} (h : Lx.bl c = true) : c.toNat = 32 ∨ c.toNat = 9 ∨ c.toNat = 10 ∨ c.toNat = 13 := of_decide_eq_true h
theorem bl_not {c : UInt8} (h : Lx.bl c = false) : ((c.toNat : Int) == 32) = false ∧ ((c.toNat : Int) == 9) = false ∧ ((c.toNat : Int) == 10) = false ∧ ((c.toNat : Int) == 13) = false := by
  have := of_decide_eq_false h
  refine ⟨beq_eq_false_iff_ne.2 (by omega), beq_eq_false_iff_ne.2 (by omega), beq_eq_false_iff_ne.2 (by omega), beq_eq_false_iff_ne.2 (by omega)⟩
theorem lexOut_of {F : Lx.Fn} {s : ByteArray} (h1 : ¬ 1000 < s.size) (h2 : isText s = true) : lexOut F s = match Lx.toks (Lx.one F) (s.size + 1) s.data.toList 0 [] false false with
  | none => ([], 5)
  | some (ts, ov, fr) => if ov = true then ([], 3) else if fr = true then ([], 17) else (ts, 0) := by
  unfold lexOut; rw [if_neg h1, if_neg (by rw [h2]; decide)]; rfl
theorem agg_list {a : Array Value} {l : List Value} (h : Value.agg a = .agg l.toArray) : l = a.toList := by
  injection h with h; rw [h]
theorem one_pos {F : Lx.Fn} {L : List UInt8} {k : Nat} (hk : k < L.length) (h : (Lx.one F (L.drop k)).err ≠ 5) : 0 < (Lx.one F (L.drop k)).len := by
  cases h1 : Lx.dg L[k] with
  | true => rw [Lx.one_num hk h1]; exact Lx.numLen_pos (Lx.run_pos hk h1)
  | false =>
    cases h2 : Lx.lt L[k] with
    | true =>
      rw [Lx.one_word hk h1 h2] at h ⊢
      unfold Lx.wordOne at h ⊢
      by_cases hw : Lx.wordLen (L.drop k) ≤ 64
      · rw [if_pos hw]; exact Lx.word_pos hk h2
      · rw [if_neg hw] at h; exact absurd rfl h
    | false =>
      by_cases h3 : L[k] = 64
      · rw [Lx.one_date hk h3] at h ⊢
        unfold Lx.dateOne at h ⊢
        cases hq : Lx.quoLen (L.drop (k + 1)) with
        | none => rw [hq] at h; exact absurd rfl h
        | some j =>
          rw [hq] at h
          by_cases hu : (F.uq ((L.drop (k + 1)).take j)).2 = 0
          · show 0 < (if _ then _ else Lx.noOne : Lx.One).len
            rw [if_pos hu]; exact Nat.succ_pos _
          · exact absurd (show (if _ then _ else Lx.noOne : Lx.One).err = 5 by rw [if_neg hu]; rfl) h
      · by_cases h4 : L[k] = 34
        · rw [Lx.one_str hk h4] at h ⊢
          unfold Lx.strOne at h ⊢
          cases hq : Lx.quoLen (L.drop k) with
          | none => rw [hq] at h; exact absurd rfl h
          | some j =>
            rw [hq] at h
            have := Lx.quoLen_le hq
            by_cases hu : (F.uq ((L.drop k).take j)).2 = 0
            · show 0 < (if _ then _ else Lx.noOne : Lx.One).len
              rw [if_pos hu]; show 0 < j; omega
            · exact absurd (show (if _ then _ else Lx.noOne : Lx.One).err = 5 by rw [if_neg hu]; rfl) h
        · rw [Lx.one_sign hk h1 h2 h3 h4] at h ⊢
          unfold Lx.signOne at h ⊢
          by_cases hs : Lx.sigLen (L.drop k) = 0
          · rw [if_pos hs] at h; exact absurd rfl h
          · rw [if_neg hs]; exact Nat.pos_of_ne_zero hs
theorem one_in (F : Lx.Fn) (L : List UInt8) (k : Nat) (hk : k < L.length) (h : (Lx.one F (L.drop k)).err ≠ 5) : k + (Lx.one F (L.drop k)).len ≤ L.length := by
  cases h1 : Lx.dg L[k] with
  | true =>
    rw [Lx.one_num hk h1]
    have := Lx.numLen_le (L.drop k)
    rw [List.length_drop] at this
    show k + Lx.numLen (L.drop k) ≤ _
    omega
  | false =>
    cases h2 : Lx.lt L[k] with
    | true =>
      rw [Lx.one_word hk h1 h2] at h ⊢
      unfold Lx.wordOne at h ⊢
      by_cases hw : Lx.wordLen (L.drop k) ≤ 64
      · rw [if_pos hw]
        have := Lx.run_le (fun c => Lx.lt c || Lx.dg c) (L.drop k)
        rw [List.length_drop] at this
        show k + Lx.run (fun c => Lx.lt c || Lx.dg c) (L.drop k) ≤ _
        omega
      · rw [if_neg hw] at h; exact absurd rfl h
    | false =>
      by_cases h3 : L[k] = 64
      · rw [Lx.one_date hk h3] at h ⊢
        unfold Lx.dateOne at h ⊢
        cases hq : Lx.quoLen (L.drop (k + 1)) with
        | none => rw [hq] at h; exact absurd rfl h
        | some j =>
          rw [hq] at h
          have := Lx.quoLen_le hq
          rw [List.length_drop] at this
          by_cases hu : (F.uq ((L.drop (k + 1)).take j)).2 = 0
          · show k + (if _ then _ else Lx.noOne : Lx.One).len ≤ _
            rw [if_pos hu]; show k + (j + 1) ≤ _; omega
          · exact absurd (show (if _ then _ else Lx.noOne : Lx.One).err = 5 by rw [if_neg hu]; rfl) h
      · by_cases h4 : L[k] = 34
        · rw [Lx.one_str hk h4] at h ⊢
          unfold Lx.strOne at h ⊢
          cases hq : Lx.quoLen (L.drop k) with
          | none => rw [hq] at h; exact absurd rfl h
          | some j =>
            rw [hq] at h
            have := Lx.quoLen_le hq
            rw [List.length_drop] at this
            by_cases hu : (F.uq ((L.drop k).take j)).2 = 0
            · show k + (if _ then _ else Lx.noOne : Lx.One).len ≤ _
              rw [if_pos hu]; show k + j ≤ _; omega
            · exact absurd (show (if _ then _ else Lx.noOne : Lx.One).err = 5 by rw [if_neg hu]; rfl) h
        · rw [Lx.one_sign hk h1 h2 h3 h4] at h ⊢
          unfold Lx.signOne at h ⊢
          by_cases hs : Lx.sigLen (L.drop k) = 0
          · rw [if_pos hs] at h; exact absurd rfl h
          · rw [if_neg hs]
            have := Lx.sigLen_le (L.drop k)
            rw [List.length_drop] at this
            show k + Lx.sigLen (L.drop k) ≤ _
            omega
/-- what Read and DocRead answer -/
def RdOut (o : List Tok × Int) (W w : World) (e : Ending) : Prop := ∃ v, e = .returned (.tuple #[v, .int .i64 o.2]) ∧ TB W.heap.size v o.1 W w
theorem RdOut.none {o : List Tok × Int} {W w : World} {e : Ending} (er : Int) (h : o = ([], er)) (he : e = .returned (.tuple #[.slice none 0 0, .int .i64 er])) (hb : Below W.heap.size W w) : RdOut o W w e := by
  subst h; exact ⟨_, he, TB.nil W hb⟩
set_option maxRecDepth 100000 in
set_option maxHeartbeats 16000000 in
theorem rdocRead_text {F : Lx.Fn} (hF : FOK F) (s : ByteArray) (hs : s.size ≤ 1000) (ht : isText s = true) (w : World) :
    Calls Tryz.prog 6 #[.string s] w fun e w' => RdOut (lexOut F s) w w' e := by
  have hz : s.data.toList.length = s.size := rfl
  have HO := Lib.hid (lexOut_of (F := F) (s := s) (by omega) ht)
  have HV := Lib.hid (fun w' => show Calls Tryz.prog 11 #[.string s] w' fun e w'' => e = .returned (.bool true) ∧ Below w'.heap.size w' w'' from by have := rvalid_any s (by omega) w'; rwa [ht] at this)
  have HF := Lib.hid hF
  obtain ⟨R, hR⟩ : ∃ R, R = Lx.toks (Lx.one F) (s.size + 1) s.data.toList 0 [] false false := ⟨_, rfl⟩
  rw [← hR] at HO
  have HR := Lib.hid (show Lx.Chk F s.data.toList R 0 (s.size + 1) [] false false from ⟨by rw [List.drop_zero]; exact hR.symm, by omega, Nat.le_refl _⟩)
  obtain ⟨o, ho⟩ : ∃ o, o = lexOut F s := ⟨_, rfl⟩
  rw [← ho] at HO ⊢
  have g1 : (s.size : Int) ≤ 1000 := by omega
  clear hR hF ht ho
  go_enter Tryz.func6, Tryz.ntmps6
  go_wp2_with ((go_at_call 11; ((with_reducible refine (HV.out _).mono ?_); rintro e w1 ⟨rfl, hb1⟩; obtain ⟨osA, dA, rfl⟩ := ext_of_below hb1; clear hb1)))
  go_loopw [4, 5, 6, 7] (fun v ov fr i wr => ∃ (k n : Nat) (ts : List Tok) (o9 f9 : Bool), i = .int .i64 k ∧ ov = .bool o9 ∧ fr = .bool f9 ∧ k ≤ s.size ∧ Hid (TB w.heap.size v ts w wr) ∧ Hid (Lx.Chk F s.data.toList R k n ts o9 f9)) (fun _ _ _ i _ => s.size - (intOf i).toNat)
  case atStart => exact ⟨0, _, [], false, false, rfl, rfl, rfl, Nat.zero_le _, Lib.hid (TB.nil w (by (repeat' (first | (with_reducible exact Below.refl _ _) | (with_reducible assumption) | (with_reducible refine Below.alloc ?_ ?_ _) | (with_reducible refine below_drewN ?_ _) | (with_reducible refine below_drew ?_) | (with_reducible refine below_ext ?_ ?_ _ _) | (with_reducible refine Below.setCell ?_ ?_ _) | (simp; done) | (simp; omega) | omega)))), HR⟩
  case round =>
    obtain ⟨k, n, ts, o9, f9, rfl, rfl, rfl, hk, hb, hc⟩ := hrel
    by_cases hlt : k < s.size
    · have hl : k < s.data.toList.length := hlt
      cases hbl : Lx.bl s[k] with
      | true =>
        obtain ⟨m, hm⟩ := hc.out.blank hl hbl
        have HM := Lib.hid hm
        have hcs := bl_tests hbl
        clear hc hm hbl
        obtain ⟨z, hzz⟩ : ∃ z, ((s[k]'hlt).toNat : Int) = z := ⟨_, rfl⟩
        have hzc : z = 32 ∨ z = 9 ∨ z = 10 ∨ z = 13 := by omega
        clear hcs
        rcases hzc with rfl | rfl | rfl | rfl
        all_goals
          go_wp2
          go_roundw
          case rel => exact ⟨k + 1, m, ts, o9, f9, by go_num, rfl, rfl, by omega, hb, HM⟩
          case measure => simp [intOf]; omega
      | false =>
        obtain ⟨z, hzz⟩ : ∃ z, ((s[k]'hlt).toNat : Int) = z := ⟨_, rfl⟩
        obtain ⟨b1, b2, b3, b4⟩ := bl_not hbl
        rw [hzz] at b1 b2 b3 b4
        have hone := fun w => rone_any HF.out s hs k hlt w
        obtain ⟨p, hp⟩ : ∃ p, p = Lx.one F (s.data.toList.drop k) := ⟨_, rfl⟩
        rw [← hp] at hone
        have HN := Lib.hid hone
        by_cases h5 : p.err = 5
        · have HB := Lib.hid (hc.out.bad hl hbl (by rw [← hp]; exact h5))
          have HOO := Lib.hid (show o = ([], 5) by have := HO.out; rw [HB.out] at this; exact this)
          have HBE := Lib.hid hb.out.2.1
          have HN5 := Lib.hid (show ∀ w, Calls Tryz.prog 12 #[.string s, .int .i64 (k : Int)] w fun e w' => (∃ (kd : Int) (tx : ByteArray) (ng : Bool) (x y sc dy az q : Int), e = .returned (.tuple #[.agg #[.int .i64 kd, .string tx, .bool ng, .int .u64 x, .int .u64 y, .int .i64 sc, .int .i64 dy, .int .i64 az], .int .i64 q, .int .i64 5])) ∧ Below w.heap.size w w' from fun w => (HN.out w).mono fun e w' h => by
            obtain ⟨⟨kd, tx, ng, x, y, sc, dy, az, q, he, -⟩, hb⟩ := h
            exact ⟨⟨kd, tx, ng, x, y, sc, dy, az, q, by rw [← h5]; exact he⟩, hb⟩)
          clear hc hbl hone HN HB h5 hp
          go_wp2_with (go_at_call 12; ((with_reducible refine (HN5.out _).mono ?_); rintro e w1 ⟨⟨kd, tx, ng, x, y, sc, dy, az, q, rfl⟩, hb1⟩; obtain ⟨os1, d1, rfl⟩ := ext_of_below hb1; clear hb1))
          go_returns
          exact RdOut.none 5 HOO.out rfl (by have := HBE.out; have hsz9 := HBE.out.size; (repeat' (first | (with_reducible exact Below.refl _ _) | (with_reducible assumption) | (with_reducible refine Below.alloc ?_ ?_ _) | (with_reducible refine below_drewN ?_ _) | (with_reducible refine below_drew ?_) | (with_reducible refine below_ext ?_ ?_ _ _) | (with_reducible refine Below.setCell ?_ ?_ _) | (simp; done) | (simp; omega) | omega)))
        · have hpos : 0 < p.len := by rw [hp]; exact one_pos hl (by rw [← hp]; exact h5)
          obtain ⟨m, hm⟩ := hc.out.good hl hbl p hp.symm h5 hpos
          have hin := one_in F s.data.toList k hl (by rw [← hp]; exact h5)
          rw [← hp, hz] at hin
          have HM := Lib.hid hm
          have hlen : ts.length ≤ 100000 := by have := hc.out.2.2; omega
          obtain ⟨er, her⟩ : ∃ er, er = p.err := ⟨_, rfl⟩
          rw [← her] at HM
          have h5b : (er == 5) = false := by rw [her]; simpa using h5
          have HNG := Lib.hid (show ∀ w, Calls Tryz.prog 12 #[.string s, .int .i64 (k : Int)] w fun e w' => (∃ (kd : Int) (tx : ByteArray) (ng : Bool) (x y sc dy az : Int), e = .returned (.tuple #[.agg #[.int .i64 kd, .string tx, .bool ng, .int .u64 x, .int .u64 y, .int .i64 sc, .int .i64 dy, .int .i64 az], .int .i64 ((k + p.len : Nat) : Int), .int .i64 er]) ∧ Hid (tkC { p.tok with at_ := k } = [.int .i64 kd, .string tx, .bool ng, .int .u64 x, .int .u64 y, .int .i64 sc, .int .i64 dy, .int .i64 az])) ∧ Below w.heap.size w w' from fun w => (HN.out w).mono fun e w' h => by
            obtain ⟨⟨kd, tx, ng, x, y, sc, dy, az, q, he, hg⟩, hb⟩ := h
            obtain ⟨ht, hq⟩ := hg h5
            exact ⟨⟨kd, tx, ng, x, y, sc, dy, az, by rw [← hq, her]; exact he, Lib.hid (agg_list ht)⟩, hb⟩)
          obtain ⟨j, hj⟩ : ∃ j, j = k + p.len := ⟨_, rfl⟩
          rw [← hj] at HNG HM hin
          have hkj : k < j := by omega
          obtain ⟨tk, htk⟩ : ∃ tk, tk = { p.tok with at_ := k } := ⟨_, rfl⟩
          rw [← htk] at HNG HM
          obtain ⟨o2, ho2⟩ : ∃ o2, o2 = (o9 || decide (er = 3)) := ⟨_, rfl⟩
          obtain ⟨f2, hf2⟩ : ∃ f2, f2 = (f9 || decide (er = 17)) := ⟨_, rfl⟩
          rw [← ho2, ← hf2] at HM
          have e3 : (er == 3) = decide (er = 3) := by by_cases h : er = 3 <;> simp [h]
          have e17 : (er == 17) = decide (er = 17) := by by_cases h : er = 17 <;> simp [h]
          obtain ⟨x3, hx3⟩ : ∃ x, x = (er == 3) := ⟨_, rfl⟩
          obtain ⟨x17, hx17⟩ : ∃ x, x = (er == 17) := ⟨_, rfl⟩
          rw [← e3, ← hx3] at ho2
          rw [← e17, ← hx17] at hf2
          have HX3 := Lib.hid hx3.symm; have HX17 := Lib.hid hx17.symm
          have HO2 := Lib.hid ho2; have HF2 := Lib.hid hf2
          have HTB := Lib.hid (fun w' (h : Below wr.heap.size wr w') => hb.out.later h)
          clear hc hbl hone HN h5 hp hm her hj htk ho2 hf2 e3 e17 hx3 hx17 hb hpos
          have k3 := HX3.out; have k17 := HX17.out
          cases o9 <;> cases f9
          all_goals
            go_wp2_with (first
              | (go_at_call 12; ((with_reducible refine (HNG.out _).mono ?_); rintro e w1 ⟨⟨kd, tx, ng, x, y, sc, dy, az, rfl, htc⟩, hb1⟩; obtain ⟨os1, d1, rfl⟩ := ext_of_below hb1; clear hb1))
              | (at_builtin; refine append_tok rfl _ _ rfl rfl w _ tk kd tx ng x y sc dy az htc.out (HTB.out _ (by (repeat' (first | (with_reducible exact Below.refl _ _) | (with_reducible assumption) | (with_reducible refine Below.alloc ?_ ?_ _) | (with_reducible refine below_drewN ?_ _) | (with_reducible refine below_drew ?_) | (with_reducible refine below_ext ?_ ?_ _ _) | (with_reducible refine Below.setCell ?_ ?_ _) | (simp; done) | (simp; omega) | omega)))) _ (by simp) rfl hlen ?_; intro v9 w9 hb9))
            go_roundw
            case rel => exact ⟨j, m, ts ++ [tk], o2, f2, rfl, by rw [HO2.out]; rfl, by rw [HF2.out]; rfl, by omega, Lib.hid hb9, HM⟩
            case measure => simp [intOf]; omega
    · have HB := Lib.hid (hc.out.stop (by omega))
      have HOO := Lib.hid (show o = if o9 = true then ([], 3) else if f9 = true then ([], 17) else (ts, 0) by have := HO.out; rw [HB.out] at this; exact this)
      have HBE := Lib.hid hb.out.2.1
      clear hc HB
      cases o9 with
      | true =>
        go_wp2
        go_returns
        exact RdOut.none 3 HOO.out rfl (by have := HBE.out; (repeat' (first | (with_reducible exact Below.refl _ _) | (with_reducible assumption) | (with_reducible refine Below.alloc ?_ ?_ _) | (with_reducible refine below_drewN ?_ _) | (with_reducible refine below_drew ?_) | (with_reducible refine below_ext ?_ ?_ _ _) | (with_reducible refine Below.setCell ?_ ?_ _) | (simp; done) | (simp; omega) | omega)))
      | false =>
        cases f9 with
        | true =>
          go_wp2
          go_returns
          exact RdOut.none 17 HOO.out rfl (by have := HBE.out; (repeat' (first | (with_reducible exact Below.refl _ _) | (with_reducible assumption) | (with_reducible refine Below.alloc ?_ ?_ _) | (with_reducible refine below_drewN ?_ _) | (with_reducible refine below_drew ?_) | (with_reducible refine below_ext ?_ ?_ _ _) | (with_reducible refine Below.setCell ?_ ?_ _) | (simp; done) | (simp; omega) | omega)))
        | false =>
          go_wp2
          go_returns
          exact ⟨_, by rw [show o = (ts, 0) from HOO.out]; rfl, by rw [show o = (ts, 0) from HOO.out]; exact hb.out⟩
end Go.Proofs.YtonajmngchfjeaaGreatDoor
