/-
  The lexer's Read.
-/
import Derived.Test.YtonajmngchfjeaaDoorLexH
import Derived.Test.YtonajmngchfjeaaDoorLexN
namespace Go.Proofs.YtonajmngchfjeaaDoor
open Go.RowKit Word Txt
open Lx (Tok)
attribute [local go_sem] setCell_drewN cell?_ext frozen?_ext shape?_ext setCell_ext lt_1' ne_1' en_1' le_1' lt_2' ne_2' en_2' le_2' lt_3' ne_3' en_3' le_3' lt_4' ne_4' en_4' le_4' lt_5' ne_5' en_5' le_5' lt_6' ne_6' en_6' le_6' lt_7' ne_7' en_7' le_7' lt_8' ne_8' en_8' le_8' lt_9' ne_9' en_9' le_9' lt_10' ne_10' en_10' le_10' lt_11' ne_11' en_11' le_11' lt_12' ne_12' en_12' le_12'

theorem TX_no0 {l : List UInt8} (h : TX l) : ∀ c ∈ l, c ≠ 0 := by
  induction h with
  | nil => intro c hc; cases hc
  | @cons l hl hg h ih =>
    intro c hc
    rw [← List.take_append_drop (Lib.decodeL l).2 l, List.mem_append] at hc
    rcases hc with hc | hc
    · by_cases h0 : 128 ≤ (l.getD 0 0).toNat
      · have := wide_bytes h0 c hc
        rintro rfl
        exact absurd this (by decide)
      · cases l with
        | nil => exact absurd rfl hl
        | cons d r =>
          have h1 : d.toNat < 128 := by
            have : ((d :: r).getD 0 0).toNat = d.toNat := rfl
            omega
          have e := Lib.decodeL_ascii d r h1
          have hok := (goodL_ok hg).2
          rw [e] at hc hok
          have hcd : c = d := by simpa using hc
          rw [hcd]
          rintro rfl
          exact absurd hok (by decide)
    · exact ih c hc
theorem text_no0 {s : ByteArray} (h : isText s = true) : ∀ j (hj : j < s.size), s[j] ≠ 0 := fun j hj =>
  TX_no0 ((isText_TX s).1 h) s[j] (List.getElem_mem (l := s.data.toList) (n := j) hj)
theorem Rdr.new {W0 w : World} (hb : Below W0.heap.size W0 w) (s : ByteArray) : Rdr W0 (w.alloc (.cells #[.string s, .int .i64 0, .int .i64 0, .slice none 0 0, .bool false, .bool false] 38)) w.heap.size s 0 0 (.slice none 0 0) [] false false := by
  have hblk : (w.alloc (.cells #[.string s, .int .i64 0, .int .i64 0, .slice none 0 0, .bool false, .bool false] 38)).heap[w.heap.size]? = some (.cells #[.string s, .int .i64 0, .int .i64 0, .slice none 0 0, .bool false, .bool false] 38) := by
    show (w.heap.push _)[w.heap.size]? = _
    rw [Array.getElem?_push_size]
  refine ⟨hb.size, by show w.heap.size < (w.heap.push _).size; simp, fun j hj => ?_, fun j hj => ?_, TB.nil W0 (hb.alloc hb.size _), (fun e => by cases e), ⟨_, _, hblk⟩⟩
  · rw [cell_of_row _ _ j _ _ _ hblk]
    rcases (show j = 0 ∨ j = 1 ∨ j = 2 ∨ j = 3 ∨ j = 4 ∨ j = 5 by omega) with rfl | rfl | rfl | rfl | rfl | rfl <;> rfl
  · rcases (show j = 0 ∨ j = 1 ∨ j = 2 ∨ j = 3 ∨ j = 4 ∨ j = 5 by omega) with rfl | rfl | rfl | rfl | rfl | rfl <;> (unfold World.frozen?; simp only; rw [hblk]; simp)
set_option maxRecDepth 100000 in
set_option maxHeartbeats 16000000 in
theorem lexRead_text {F : Lx.Fn} (hF : FOP F) (s : ByteArray) (hs : s.size ≤ 1000) (ht : isText s = true) (w : World) (hT : Tabs w) (hL : Lens w) :
    Calls Tryd.prog 5 #[.string s] w fun e w' => RdOut (lexOut F s) w w' e := by
  obtain ⟨R, hR⟩ : ∃ R, R = Lx.toks (Lx.one F) (s.size + 1) s.data.toList 0 [] false false := ⟨_, rfl⟩
  have hO := lexOut_of (F := F) (s := s) (by omega) ht
  rw [← hR] at hO
  have hyp : TokHyp F R s w := ⟨hs, hR, text_no0 ht, hF.word, fun x hx => ⟨(hF.num x hx).1, (hF.num x hx).2⟩, fun x _ => ⟨(hF.day x).1, fun w' hb => (hF.day x).2 w' (hL.below hb)⟩, fun x hx => ⟨(hF.uq x hx).1, fun w' hb => (hF.uq x hx).2 w' (hT.below hb)⟩⟩
  have HV := Lib.hid (show Calls Tryd.prog 7 #[.string s] w fun e w'' => e = .returned (.bool true) ∧ Below w.heap.size w w'' from by have := valid_any s (by unfold maxLen; omega) w hT; rwa [ht] at this)
  have HTK := Lib.hid (fun b w1 (hbs : b = w1.heap.size) (h : Below w.heap.size w w1) => tokens_any hyp (p := b) (w1.alloc (.cells #[.string s, .int .i64 0, .int .i64 0, .slice none 0 0, .bool false, .bool false] 38)) (by subst hbs; exact Rdr.new h s))
  obtain ⟨o, ho⟩ : ∃ o, o = lexOut F s := ⟨_, rfl⟩
  rw [← ho] at hO ⊢
  have g1 : (s.size : Int) ≤ 1000 := by omega
  clear hyp hR ht hF ho hT hL
  cases R with
  | none =>
    have HO := Lib.hid hO
    clear hO
    go_enter Tryd.func5, Tryd.ntmps5
    go_wp2_with (first
      | (go_at_call 7; ((with_reducible refine (HV.out).mono ?_); rintro e w1 ⟨rfl, hb1⟩; obtain ⟨osA, dA, rfl⟩ := ext_of_below hb1; clear hb1))
      | (go_at_call 8; ((with_reducible refine (HTK.out _ _ (by simp) (by (repeat' (first | (with_reducible exact Below.refl _ _) | (with_reducible assumption) | (with_reducible refine Below.alloc ?_ ?_ _) | (with_reducible refine below_drewN ?_ _) | (with_reducible refine below_drew ?_) | (with_reducible refine below_ext ?_ ?_ _ _) | (with_reducible refine Below.setCell ?_ ?_ _) | (simp; done) | (simp; omega) | omega)))).mono ?_); rintro e w2 ⟨rfl, hb2, -⟩; have HB2 := Lib.hid hb2; clear hb2)))
    go_returns
    exact RdOut.none 5 HO.out rfl HB2.out
  | some q =>
    obtain ⟨ts, ov, fr⟩ := q
    cases ov with
    | true =>
      have HO := Lib.hid (show o = ([], 3) from hO)
      clear hO
      go_enter Tryd.func5, Tryd.ntmps5
      go_wp2_with (first
        | (go_at_call 7; ((with_reducible refine (HV.out).mono ?_); rintro e w1 ⟨rfl, hb1⟩; obtain ⟨osA, dA, rfl⟩ := ext_of_below hb1; clear hb1))
        | (go_at_call 8; ((with_reducible refine (HTK.out _ _ (by simp) (by (repeat' (first | (with_reducible exact Below.refl _ _) | (with_reducible assumption) | (with_reducible refine Below.alloc ?_ ?_ _) | (with_reducible refine below_drewN ?_ _) | (with_reducible refine below_drew ?_) | (with_reducible refine below_ext ?_ ?_ _ _) | (with_reducible refine Below.setCell ?_ ?_ _) | (simp; done) | (simp; omega) | omega)))).mono ?_); rintro e w2 ⟨rfl, hb2, hr2⟩; obtain ⟨k, b, lv, hr3⟩ := hr2 ts true fr rfl; have HB2 := Lib.hid hb2; have c3 := hr3.c3; have c4 := hr3.c4; have c5 := hr3.c5; have HR3 := Lib.hid hr3; clear hb2 hr3 hr2)))
      go_returns
      exact RdOut.none 3 HO.out rfl (HB2.out.trans (by (repeat' (first | (with_reducible exact Below.refl _ _) | (with_reducible assumption) | (with_reducible refine Below.alloc ?_ ?_ _) | (with_reducible refine below_drewN ?_ _) | (with_reducible refine below_drew ?_) | (with_reducible refine below_ext ?_ ?_ _ _) | (with_reducible refine Below.setCell ?_ ?_ _) | (simp; done) | (simp; omega) | omega))))
    | false =>
      cases fr with
      | true =>
        have HO := Lib.hid (show o = ([], 17) from hO)
        clear hO
        go_enter Tryd.func5, Tryd.ntmps5
        go_wp2_with (first
          | (go_at_call 7; ((with_reducible refine (HV.out).mono ?_); rintro e w1 ⟨rfl, hb1⟩; obtain ⟨osA, dA, rfl⟩ := ext_of_below hb1; clear hb1))
          | (go_at_call 8; ((with_reducible refine (HTK.out _ _ (by simp) (by (repeat' (first | (with_reducible exact Below.refl _ _) | (with_reducible assumption) | (with_reducible refine Below.alloc ?_ ?_ _) | (with_reducible refine below_drewN ?_ _) | (with_reducible refine below_drew ?_) | (with_reducible refine below_ext ?_ ?_ _ _) | (with_reducible refine Below.setCell ?_ ?_ _) | (simp; done) | (simp; omega) | omega)))).mono ?_); rintro e w2 ⟨rfl, hb2, hr2⟩; obtain ⟨k, b, lv, hr3⟩ := hr2 ts false true rfl; have HB2 := Lib.hid hb2; have c3 := hr3.c3; have c4 := hr3.c4; have c5 := hr3.c5; have HR3 := Lib.hid hr3; clear hb2 hr3 hr2)))
        go_returns
        exact RdOut.none 17 HO.out rfl (HB2.out.trans (by (repeat' (first | (with_reducible exact Below.refl _ _) | (with_reducible assumption) | (with_reducible refine Below.alloc ?_ ?_ _) | (with_reducible refine below_drewN ?_ _) | (with_reducible refine below_drew ?_) | (with_reducible refine below_ext ?_ ?_ _ _) | (with_reducible refine Below.setCell ?_ ?_ _) | (simp; done) | (simp; omega) | omega))))
      | false =>
        have HO := Lib.hid (show o = (ts, 0) from hO)
        clear hO
        go_enter Tryd.func5, Tryd.ntmps5
        go_wp2_with (first
          | (go_at_call 7; ((with_reducible refine (HV.out).mono ?_); rintro e w1 ⟨rfl, hb1⟩; obtain ⟨osA, dA, rfl⟩ := ext_of_below hb1; clear hb1))
          | (go_at_call 8; ((with_reducible refine (HTK.out _ _ (by simp) (by (repeat' (first | (with_reducible exact Below.refl _ _) | (with_reducible assumption) | (with_reducible refine Below.alloc ?_ ?_ _) | (with_reducible refine below_drewN ?_ _) | (with_reducible refine below_drew ?_) | (with_reducible refine below_ext ?_ ?_ _ _) | (with_reducible refine Below.setCell ?_ ?_ _) | (simp; done) | (simp; omega) | omega)))).mono ?_); rintro e w2 ⟨rfl, hb2, hr2⟩; obtain ⟨k, b, lv, hr3⟩ := hr2 ts false false rfl; have HB2 := Lib.hid hb2; have c3 := hr3.c3; have c4 := hr3.c4; have c5 := hr3.c5; have HR3 := Lib.hid hr3; clear hb2 hr3 hr2)))
        go_returns
        exact ⟨_, by rw [HO.out]; rfl, by rw [HO.out]; exact HR3.out.buf⟩
theorem lexRead_any {F : Lx.Fn} (hF : FOP F) (s : ByteArray) (hs : s.size ≤ maxLen) (w : World) (hT : Tabs w) (hL : Lens w) :
    Calls Tryd.prog 5 #[.string s] w fun e w' => RdOut (lexOut F s) w w' e := by
  by_cases h : 1000 < s.size
  · have HO := Lib.hid (show lexOut F s = ([], 6) from if_pos h)
    have g1 : ¬ (s.size : Int) ≤ 1000 := by omega
    clear hF hT hL
    obtain ⟨o, ho⟩ : ∃ o, o = lexOut F s := ⟨_, rfl⟩
    rw [← ho] at HO ⊢
    clear ho
    go_enter Tryd.func5, Tryd.ntmps5
    go_wp2
    go_returns
    exact RdOut.none 6 HO.out rfl (by (repeat' (first | (with_reducible exact Below.refl _ _) | (with_reducible assumption) | (with_reducible refine Below.alloc ?_ ?_ _) | (with_reducible refine below_drewN ?_ _) | (with_reducible refine below_drew ?_) | (with_reducible refine below_ext ?_ ?_ _ _) | (with_reducible refine Below.setCell ?_ ?_ _) | (simp; done) | (simp; omega) | omega)))
  · cases ht : isText s with
    | true => exact lexRead_text hF s (by omega) ht w hT hL
    | false =>
      have HO := Lib.hid (show lexOut F s = ([], 2) by unfold lexOut; rw [if_neg h, if_pos ht])
      have HV := Lib.hid (show Calls Tryd.prog 7 #[.string s] w fun e w'' => e = .returned (.bool false) ∧ Below w.heap.size w w'' from by have := valid_any s hs w hT; rwa [ht] at this)
      have g1 : (s.size : Int) ≤ 1000 := by omega
      obtain ⟨o, ho⟩ : ∃ o, o = lexOut F s := ⟨_, rfl⟩
      rw [← ho] at HO ⊢
      clear hF hT hL ho ht
      go_enter Tryd.func5, Tryd.ntmps5
      go_wp2_with ((go_at_call 7; ((with_reducible refine (HV.out).mono ?_); rintro e w1 ⟨rfl, hb1⟩; obtain ⟨osA, dA, rfl⟩ := ext_of_below hb1; clear hb1)))
      go_returns
      exact RdOut.none 2 HO.out rfl (by (repeat' (first | (with_reducible exact Below.refl _ _) | (with_reducible assumption) | (with_reducible refine Below.alloc ?_ ?_ _) | (with_reducible refine below_drewN ?_ _) | (with_reducible refine below_drew ?_) | (with_reducible refine below_ext ?_ ?_ _ _) | (with_reducible refine Below.setCell ?_ ?_ _) | (simp; done) | (simp; omega) | omega)))
end Go.Proofs.YtonajmngchfjeaaDoor
