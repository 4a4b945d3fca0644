/-
  GraphApart.
-/
import Derived.Test.YtdgdeognahmpmaaGrCp
import Derived.Test.YtdgdeognahmpmaaGrX
namespace Go.Proofs.Ytdgdeognahmpmaa
open Go.RowKit
open Gk (okN okN_iff nxt nxt_some nxt_none ord ord_none ord_some Dn nodup_le)
attribute [local go_sem] setCell_drewN cell?_ext frozen?_ext shape?_ext setCell_ext lt_1' ne_1' en_1' le_1' lt_2' ne_2' en_2' le_2' lt_3' ne_3' en_3' le_3' lt_4' ne_4' en_4' le_4' lt_5' ne_5' en_5' le_5' lt_6' ne_6' en_6' le_6' lt_7' ne_7' en_7' le_7' lt_8' ne_8' en_8' le_8' lt_9' ne_9' en_9' le_9' lt_10' ne_10' en_10' le_10' lt_11' ne_11' en_11' le_11' lt_12' ne_12' en_12' le_12'

set_option maxRecDepth 100000 in
set_option maxHeartbeats 8000000 in
theorem rsameI_true {n w va vb} {l : List Int} (ha : IRd n w va l) (hb : IRd n w vb l) (hl : l.length ≤ 1048576) :
    Calls Try.prog 11 #[va, vb] w fun e w' => e = .returned (.bool true) ∧ ∃ d, w' = w.drewN d := by
  obtain ⟨p, c, rfl, h2⟩ := ha
  obtain ⟨p2, c2, rfl, h3⟩ := hb
  have H2 := Lib.hid h2
  have H3 := Lib.hid h3
  obtain ⟨m, hm⟩ : ∃ m, m = l.length := ⟨_, rfl⟩
  have HM := Lib.hid hm
  rw [← hm] at hl ⊢
  clear h2 h3 hm
  go_enter Try.func11, Try.ntmps11
  go_wp2
  go_loopw [5] (fun z wr => ∃ k : Nat, z = .int .i64 k ∧ k ≤ m ∧ (∃ d, wr = w.drewN d)) (fun z _ => m - (intOf z).toNat)
  case atStart => exact ⟨0, rfl, Nat.zero_le _, ⟨0, rfl⟩⟩
  case round =>
    obtain ⟨k, rfl, hk, ⟨d, rfl⟩⟩ := hrel
    by_cases hlt : k < m
    · have hkl : k < l.length := by rw [← HM.out]; exact hlt
      have hki : (k : Int) < (m : Int) := by omega
      obtain ⟨g, o, rfl, hg, hc⟩ := H2.out (by omega)
      obtain ⟨g2, o2, rfl, hg2, hc2⟩ := H3.out (by omega)
      have hcx := hc k hkl
      have hcy := hc2 k hkl
      obtain ⟨x, hx⟩ : ∃ x, x = l[k] := ⟨_, rfl⟩
      rw [← hx] at hcx hcy
      clear hx hc hc2
      go_wp2
      go_region
      all_goals
        go_wp2
        go_roundw
        case rel => exact ⟨k + 1, by go_num, by omega, ⟨_, rfl⟩⟩
        case measure => simp [intOf]; omega
    · have hki : ¬ (k : Int) < (m : Int) := by omega
      go_wp2
      go_ret
      exact ⟨rfl, _, rfl⟩
theorem CpS.nrd {L : List (List Int)} {w0 w : World} {g : Nat} {gs : Nat → Nat} (h : CpS L w0 w g L.length gs) : NRd w.heap.size w (.slice (some ⟨g, 0, none⟩) L.length (L.length + 2)) L := by
  refine ⟨some ⟨g, 0, none⟩, _, rfl, fun _ => ⟨g, 0, rfl, h.row.lt, fun i hi => ?_⟩⟩
  have hgd : L.getD i [] = L[i] := by rw [List.getD_eq_getElem?_getD, List.getElem?_eq_getElem hi]; rfl
  have hc := h.row.cell i (by omega)
  unfold cpF at hc
  rw [if_pos hi, hgd] at hc
  obtain ⟨h1, h2⟩ := h.cb i hi
  rw [hgd] at h2
  refine ⟨_, by rw [Nat.zero_add]; exact hc, some ⟨gs i, 0, none⟩, _, rfl, fun _ => ⟨gs i, 0, rfl, h1, fun j hj => ?_⟩⟩
  rw [Nat.zero_add, h2 j (by omega), List.getD_eq_getElem?_getD, List.getElem?_eq_getElem hj]
  rfl
/-- cells that may be written -/
def WrA (w : World) (g o n : Nat) : Prop := ∀ j, j < n → (w.cell? ⟨g, o + j, none⟩).isSome = true ∧ w.frozen? ⟨g, o + j, none⟩ = false
theorem IRd.more2 {n m : Nat} {w : World} {v : Value} {l : List Int} (h : IRd n w v l) (hm : n ≤ m) : IRd m w v l := by
  obtain ⟨p, c, rfl, h2⟩ := h
  refine ⟨p, c, rfl, fun h0 => ?_⟩
  obtain ⟨g, o, hp, hg, hc⟩ := h2 h0
  exact ⟨g, o, hp, Nat.lt_of_lt_of_le hg hm, hc⟩
def WS (S : Nat → Prop) (w : World) (q : Option Addr) (n : Nat) : Prop := 0 < n → ∃ g o, q = some ⟨g, o, none⟩ ∧ S g ∧ WrA w g o n
theorem WrA.set {w : World} {g o n : Nat} (h : WrA w g o n) (p : Addr) (v : Value) : WrA (w.setCell p v) g o n := fun j hj => by
  obtain ⟨h1, h2⟩ := h j hj
  refine ⟨?_, by rw [World.frozen?_setCell]; exact h2⟩
  by_cases e : p = ⟨g, o + j, none⟩
  · subst e
    obtain ⟨u, hu⟩ := Option.isSome_iff_exists.1 h1
    rw [World.cell?_setCell_same w _ _ hu]
    rfl
  · rw [World.cell?_setCell_other w _ _ _ e]; exact h1
theorem WS.set {S : Nat → Prop} {w : World} {q : Option Addr} {n : Nat} (h : WS S w q n) (p : Addr) (v : Value) : WS S (w.setCell p v) q n := fun h0 => by
  obtain ⟨g, o, h1, h2, h3⟩ := h h0
  exact ⟨g, o, h1, h2, h3.set p v⟩
theorem WS.later {S T : Nat → Prop} {w w' : World} {q : Option Addr} {n : Nat} (h : WS S w q n) (hb : Below w.heap.size w w') (hl : ∀ k, S k → k < w.heap.size) (hT : ∀ k, S k → T k) : WS T w' q n := fun h0 => by
  obtain ⟨g, o, h1, h2, h3⟩ := h h0
  refine ⟨g, o, h1, hT g h2, fun j hj => ?_⟩
  have hg := hl g h2
  have e := hb.block g hg
  rw [World.cell?_of_block (a := ⟨g, o + j, none⟩) e, World.frozen?_of_block (a := ⟨g, o + j, none⟩) e]
  exact h3 j hj
theorem ws_of {n B na : Nat} {w : World} {q : Option Addr} {c : Nat} {l : List Nat} (hs : SRd n w (.slice q na c) l) (hf : Fr B w (.slice q na c)) : WS (fun k => B ≤ k ∧ k < w.heap.size) w q na := fun h0 => by
  obtain ⟨p, c2, e, h2⟩ := hs
  injection e with e1 e2 e3
  subst e1 e2 e3
  obtain ⟨g, o, rfl, -, hc⟩ := h2 h0
  obtain ⟨h3, h4, h5⟩ := hf _ _ _ rfl
  exact ⟨g, o, rfl, ⟨h3, h4⟩, fun j hj => ⟨by rw [hc j hj]; rfl, h5 _⟩⟩
theorem SRd.oth {n : Nat} {w w' : World} {v : Value} {l : List Nat} {S : Nat → Prop} {B : Nat} (h : SRd n w v l) (hf : Fr B w v) (ho : Oth S w w') (hS : ∀ k, B ≤ k → ¬ S k) : SRd n w' v l := by
  obtain ⟨p, c, rfl, h2⟩ := h
  refine ⟨p, c, rfl, fun h0 => ?_⟩
  obtain ⟨g, o, rfl, hg, hc⟩ := h2 h0
  obtain ⟨h3, h4, -⟩ := hf _ _ _ rfl
  exact ⟨g, o, rfl, hg, fun j hj => by rw [World.cell?_of_block (a := ⟨g, o + j, none⟩) (ho.block g h4 (hS g h3))]; exact hc j hj⟩
theorem Fr.later {B : Nat} {w w' : World} {v : Value} (h : Fr B w v) (hb : Below w.heap.size w w') : Fr B w' v := fun p n c e => by
  obtain ⟨h1, h2, h3⟩ := h p n c e
  exact ⟨h1, Nat.lt_of_lt_of_le h2 hb.size, fun j => by rw [World.frozen?_of_block (a := ⟨p.block, j, none⟩) (hb.block _ h2)]; exact h3 j⟩
theorem oth_below {S : Nat → Prop} {n : Nat} {w w' : World} (h : Oth S w w') (hS : ∀ k, k < n → ¬ S k) (hn : n ≤ w.heap.size) : Below n w w' := ⟨h.os, h.tape, h.output, h.size, fun j hj => h.block j (Nat.lt_of_lt_of_le hj hn) (hS j hj)⟩
theorem ordL_sl {L : List (List Int)} {w : World} {e : Ending} {w' : World} (h : OrdQ L w e w') : ∃ q c, e = .returned (.tuple #[.slice q (ordL L).length c, .int .i64 (ordE L)]) ∧ Below w.heap.size w w' ∧ SRd w'.heap.size w' (.slice q (ordL L).length c) (ordL L) ∧ Fr w.heap.size w' (.slice q (ordL L).length c) := by
  obtain ⟨v', rfl, hb, hs, hf⟩ := h
  obtain ⟨q, c, rfl, h2⟩ := hs
  exact ⟨q, c, rfl, hb, ⟨q, c, rfl, h2⟩, hf⟩
theorem reL_sl {L : List (List Int)} {f : Int} {w : World} {e : Ending} {w' : World} (h : RQ L f w e w') : ∃ q c, e = .returned (.tuple #[.slice q (reL L f).length c, .int .i64 (reE L f)]) ∧ Below w.heap.size w w' ∧ SRd w'.heap.size w' (.slice q (reL L f).length c) (reL L f) ∧ Fr w.heap.size w' (.slice q (reL L f).length c) := by
  obtain ⟨v', rfl, hb, hs, hf⟩ := h
  obtain ⟨q, c, rfl, h2⟩ := hs
  exact ⟨q, c, rfl, hb, ⟨q, c, rfl, h2⟩, hf⟩
theorem leL_sl {L : List (List Int)} {w : World} {e : Ending} {w' : World} (h : LQ L w e w') : ∃ q c, e = .returned (.tuple #[.slice q (leL L).length c, .int .i64 (ordE L)]) ∧ Below w.heap.size w w' ∧ SRd w'.heap.size w' (.slice q (leL L).length c) (leL L) ∧ Fr w.heap.size w' (.slice q (leL L).length c) := by
  obtain ⟨v', rfl, hb, hs, hf⟩ := h
  obtain ⟨q, c, rfl, h2⟩ := hs
  exact ⟨q, c, rfl, hb, ⟨q, c, rfl, h2⟩, hf⟩
theorem rsame_self {n w va vb} {a : List Nat} (ha : SRd n w va a) (hb : SRd n w vb a) (hl : a.length ≤ 1000000) (d : Nat) :
    Calls Try.prog 11 #[va, vb] (w.drewN d) fun e w' => e = .returned (.bool true) ∧ ∃ d, w' = w.drewN d :=
  (rsame_any (ha.keep (bel_drew (Below.refl n w) d)) (hb.keep (bel_drew (Below.refl n w) d)) hl hl).mono fun e w' ⟨h1, d2, h2⟩ => ⟨by rw [h1, decide_eq_true rfl], d + d2, by rw [h2]; simp [go_sem]⟩
theorem rsame_self0 {n w va vb} {a : List Nat} (ha : SRd n w va a) (hb : SRd n w vb a) (hl : a.length ≤ 1000000) :
    Calls Try.prog 11 #[va, vb] w fun e w' => e = .returned (.bool true) ∧ ∃ d, w' = w.drewN d :=
  (rsame_any ha hb hl hl).mono fun e w' ⟨h1, h2⟩ => ⟨by rw [h1, decide_eq_true rfl], h2⟩
set_option maxRecDepth 100000 in
set_option maxHeartbeats 32000000 in
theorem graphApart_law {n w v} {L : List (List Int)} (f : Int) (h : NRd n w v L) (hn : n ≤ w.heap.size) (hl : L.length ≤ 1048576) (hll : ∀ i (h : i < L.length), L[i].length ≤ 1048576) :
    Calls Try.prog 7 #[v, .int .i64 f] w fun e w' => e = .returned (.bool true) ∧ Below w.heap.size w w' := by
  have HK := Lib.hid (gknown_any w)
  have HN := Lib.hid hn
  have HLL := Lib.hid hll
  have HCP := Lib.hid (show ∀ w1, Below w.heap.size w w1 → Calls Try.prog 16 #[v] w1 fun e w' => CpQ L w1 e w' from fun w1 hb => copies_any (h.keep (hb.mono hn)) (Nat.le_trans hn hb.size) hl hll)
  have HX := Lib.hid (show ∀ w1, Below w.heap.size w w1 → Calls Try.prog 9 #[v] w1 fun e w' => OrdQ L w1 e w' from fun w1 hb => docorder_any (h.keep (hb.mono hn)) (Nat.le_trans hn hb.size))
  have HY := Lib.hid (show ∀ w1, Below w.heap.size w w1 → Calls Try.prog 12 #[v, .int .i64 f] w1 fun e w' => RQ L f w1 e w' from fun w1 hb => docReach_any f (h.keep (hb.mono hn)) (Nat.le_trans hn hb.size))
  have HZ := Lib.hid (show ∀ w1, Below w.heap.size w w1 → Calls Try.prog 14 #[v] w1 fun e w' => LQ L w1 e w' from fun w1 hb => doclevels_any (h.keep (hb.mono hn)) (Nat.le_trans hn hb.size))
  have HOL := Lib.hid (ordL_len L)
  have HRL := Lib.hid (reL_len L f)
  have HLV := Lib.hid (leL_len L)
  obtain ⟨na, hna⟩ : ∃ na, na = (ordL L).length := ⟨_, rfl⟩
  obtain ⟨nb, hnb⟩ : ∃ nb, nb = (reL L f).length := ⟨_, rfl⟩
  obtain ⟨nc, hnc⟩ : ∃ nc, nc = (leL L).length := ⟨_, rfl⟩
  obtain ⟨N, hNN⟩ : ∃ N, N = L.length := ⟨_, rfl⟩
  have HNN := Lib.hid hNN
  have MO := Lib.hid (fun w e w' (h : OrdQ L w e w') => ordL_sl h)
  have MR := Lib.hid (fun w e w' (h : RQ L f w e w') => reL_sl h)
  have ML := Lib.hid (fun w e w' (h : LQ L w e w') => leL_sl h)
  rw [← hna] at MO
  rw [← hnb] at MR
  rw [← hnc] at ML
  have hna1 : na ≤ 1000000 := by rw [hna]; exact HOL.out
  have hnb1 : nb ≤ 1000000 := by rw [hnb]; exact HRL.out
  have hnc1 : nc ≤ 1000000 := by rw [hnc]; exact HLV.out
  obtain ⟨p, c, rfl, h2⟩ := h
  have H2 := Lib.hid h2
  have hl1 : N ≤ 1048576 := by rw [hNN]; exact hl
  rw [← hNN] at HCP HX HY HZ ⊢
  clear hn hl hll hna hnb hnc hNN h2
  go_enter Try.func7, Try.ntmps7
  go_wp2_with (first
    | (go_at_call 8; ((with_reducible refine HK.out.mono ?_); rintro e w1 ⟨rfl, hb⟩; have HB1 := Lib.hid hb; clear hb))
    | (go_at_call 16; ((with_reducible refine (HCP.out _ HB1.out).mono ?_); rintro e w2 ⟨gs, rfl, hcs⟩; have HCS := Lib.hid hcs; have HB2 := Lib.hid (HB1.out.trans (hcs.bel.mono HB1.out.size)); have HIN := Lib.hid hcs.nrd; have HOA := Lib.hid (gorder_any hcs.nrd (Nat.le_refl _)); rw [← HNN.out] at HOA HIN ⊢; clear hcs))
    | (go_at_call 10; ((with_reducible refine HOA.out.mono ?_); intro e w3 hq; obtain ⟨qa, ca, rfl, hb, hs, hf⟩ := MO.out _ _ _ hq; have HB3 := Lib.hid hb; have HSA := Lib.hid hs; have HFA := Lib.hid hf; have HOB := Lib.hid (gReach_any f (HIN.out.keep hb) hb.size); clear hb hs hf hq))
    | (go_at_call 13; ((with_reducible refine HOB.out.mono ?_); intro e w4 hq; obtain ⟨qb, cb, rfl, hb, hs, hf⟩ := MR.out _ _ _ hq; have HB4 := Lib.hid hb; have HSB := Lib.hid hs; have HFB := Lib.hid hf; have HOC := Lib.hid (glevels_any ((HIN.out.keep HB3.out).keep (hb.mono HB3.out.size)) (Nat.le_trans HB3.out.size hb.size)); clear hb hs hf hq))
    | (go_at_call 15; ((with_reducible refine HOC.out.mono ?_); intro e w5 hq; obtain ⟨qc, cc, rfl, hb, hs, hf⟩ := ML.out _ _ _ hq; have HB5 := Lib.hid hb; have HSC := Lib.hid hs; have HFC := Lib.hid hf; have HBW5 := Lib.hid (HB2.out.trans ((HB3.out.trans ((HB4.out.trans (hb.mono HB4.out.size)).mono HB3.out.size)).mono HB2.out.size)); clear hb hs hf hq))
    | (go_at_call 9; ((with_reducible refine (HX.out _ HBW5.out).mono ?_); intro e w6 hq; obtain ⟨qx, cx, rfl, hb, hs, hf⟩ := MO.out _ _ _ hq; have HB6 := Lib.hid hb; have HSX := Lib.hid hs; have HFX := Lib.hid hf; have HBW6 := Lib.hid (HBW5.out.trans (hb.mono HBW5.out.size)); clear hb hs hf hq))
    | (go_at_call 12; ((with_reducible refine (HY.out _ HBW6.out).mono ?_); intro e w7 hq; obtain ⟨qy, cy, rfl, hb, hs, hf⟩ := MR.out _ _ _ hq; have HB7 := Lib.hid hb; have HSY := Lib.hid hs; have HBW7 := Lib.hid (HBW6.out.trans (hb.mono HBW6.out.size)); clear hb hs hf hq))
    | (go_at_call 14; ((with_reducible refine (HZ.out _ HBW7.out).mono ?_); intro e w8 hq; obtain ⟨qz, cz, rfl, hb, hs, hf⟩ := ML.out _ _ _ hq; have HB8 := Lib.hid hb; have HSZ := Lib.hid hs; have HBW8 := Lib.hid (HBW7.out.trans (hb.mono HBW7.out.size)); clear hb hs hf hq; have hb78 := HB8.out; have hb68 := HB7.out.trans (hb78.mono HB7.out.size); have hb58 := HB6.out.trans (hb68.mono HB6.out.size); have hb48 := HB5.out.trans (hb58.mono HB5.out.size); have hb38 := HB4.out.trans (hb48.mono HB4.out.size); have HE1 := Lib.hid (rsame_self0 ((HSA.out.keep hb38).more hb38.size) ((HSX.out.keep hb68).more hb68.size) HOL.out); have HE2 := Lib.hid (rsame_self ((HSB.out.keep hb48).more hb48.size) ((HSY.out.keep hb78).more hb78.size) HRL.out); have HE3 := Lib.hid (rsame_self ((HSC.out.keep hb58).more hb58.size) HSZ.out HLV.out); have HWA := Lib.hid (show WS (fun k => w2.heap.size ≤ k ∧ k < w5.heap.size) w8 qa na from (ws_of HSA.out HFA.out).later hb38 (fun k h => h.2) (fun k h => ⟨h.1, Nat.lt_of_lt_of_le h.2 (Nat.le_trans HB4.out.size HB5.out.size)⟩)); have HWB := Lib.hid (show WS (fun k => w2.heap.size ≤ k ∧ k < w5.heap.size) w8 qb nb from (ws_of HSB.out HFB.out).later hb48 (fun k h => h.2) (fun k h => ⟨Nat.le_trans HB3.out.size h.1, Nat.lt_of_lt_of_le h.2 HB5.out.size⟩)); have HWC := Lib.hid (show WS (fun k => w2.heap.size ≤ k ∧ k < w5.heap.size) w8 qc nc from (ws_of HSC.out HFC.out).later hb58 (fun k h => h.2) (fun k h => ⟨Nat.le_trans HB3.out.size (Nat.le_trans HB4.out.size h.1), h.2⟩)); have HSX8 := Lib.hid ((HSX.out.keep hb68).more hb68.size); have HFX8 := Lib.hid (HFX.out.later hb68); have HB28 := Lib.hid (HB3.out.trans (hb38.mono HB3.out.size)); have HS5 := Lib.hid hb58.size; have HS2 := Lib.hid (Nat.le_trans HB3.out.size hb38.size); clear hb78 hb68 hb58 hb48 hb38))
    | (go_at_call 11; ((with_reducible refine HE1.out.mono ?_); rintro e w9 ⟨rfl, d1, rfl⟩))
    | (go_at_call 11; ((with_reducible refine (HE2.out _).mono ?_); rintro e w9 ⟨rfl, d2, rfl⟩))
    | (go_at_call 11; ((with_reducible refine (HE3.out _).mono ?_); rintro e w9 ⟨rfl, d3, rfl⟩)))
  go_loopw [18] (fun z wr => ∃ i : Nat, z = .int .i64 i ∧ i ≤ na ∧ Hid (Oth (fun k => w2.heap.size ≤ k ∧ k < w5.heap.size) w8 wr) ∧ Hid (WS (fun k => w2.heap.size ≤ k ∧ k < w5.heap.size) wr qa na) ∧ Hid (WS (fun k => w2.heap.size ≤ k ∧ k < w5.heap.size) wr qb nb) ∧ Hid (WS (fun k => w2.heap.size ≤ k ∧ k < w5.heap.size) wr qc nc)) (fun z _ => na - (intOf z).toNat)
  case atStart => exact ⟨0, rfl, Nat.zero_le _, Lib.hid ⟨rfl, rfl, rfl, Nat.le_refl _, fun _ _ _ => rfl⟩, HWA, HWB, HWC⟩
  case round =>
    clear HWA HWB HWC
    obtain ⟨i, rfl, hi, ho, hwa, hwb, hwc⟩ := hrel
    by_cases hlt : i < na
    · have hii : (i : Int) < (na : Int) := by omega
      obtain ⟨gq, oq, rfl, hS, hw⟩ := hwa.out (by omega)
      obtain ⟨hc1, hc2⟩ := hw i hlt
      obtain ⟨u, hu⟩ := Option.isSome_iff_exists.1 hc1
      have HO := Lib.hid (fun v => ho.out.set ⟨gq, oq + i, none⟩ hS v)
      have HA := Lib.hid (fun v => hwa.out.set ⟨gq, oq + i, none⟩ v)
      have HB := Lib.hid (fun v => hwb.out.set ⟨gq, oq + i, none⟩ v)
      have HC := Lib.hid (fun v => hwc.out.set ⟨gq, oq + i, none⟩ v)
      clear ho hwa hwb hwc hS hw hc1
      go_wp2
      go_roundw
      case rel => exact ⟨i + 1, by go_num, by omega, Lib.hid (HO.out _), Lib.hid (HA.out _), Lib.hid (HB.out _), Lib.hid (HC.out _)⟩
      case measure => simp [intOf]; omega
    · obtain rfl : na = i := by omega
      go_wp2
      go_loopw [19] (fun z wr => ∃ i : Nat, z = .int .i64 i ∧ i ≤ nb ∧ Hid (Oth (fun k => w2.heap.size ≤ k ∧ k < w5.heap.size) w8 wr) ∧ Hid (WS (fun k => w2.heap.size ≤ k ∧ k < w5.heap.size) wr qa na) ∧ Hid (WS (fun k => w2.heap.size ≤ k ∧ k < w5.heap.size) wr qb nb) ∧ Hid (WS (fun k => w2.heap.size ≤ k ∧ k < w5.heap.size) wr qc nc)) (fun z _ => nb - (intOf z).toNat)
      case atStart => exact ⟨0, rfl, Nat.zero_le _, ho, hwa, hwb, hwc⟩
      case round =>
        clear ho hwa hwb hwc
        obtain ⟨i, rfl, hi, ho, hwa, hwb, hwc⟩ := hrel
        by_cases hlt : i < nb
        · have hii : (i : Int) < (nb : Int) := by omega
          obtain ⟨gq, oq, rfl, hS, hw⟩ := hwb.out (by omega)
          obtain ⟨hc1, hc2⟩ := hw i hlt
          obtain ⟨u, hu⟩ := Option.isSome_iff_exists.1 hc1
          have HO := Lib.hid (fun v => ho.out.set ⟨gq, oq + i, none⟩ hS v)
          have HA := Lib.hid (fun v => hwa.out.set ⟨gq, oq + i, none⟩ v)
          have HB := Lib.hid (fun v => hwb.out.set ⟨gq, oq + i, none⟩ v)
          have HC := Lib.hid (fun v => hwc.out.set ⟨gq, oq + i, none⟩ v)
          clear ho hwa hwb hwc hS hw hc1
          go_wp2
          go_roundw
          case rel => exact ⟨i + 1, by go_num, by omega, Lib.hid (HO.out _), Lib.hid (HA.out _), Lib.hid (HB.out _), Lib.hid (HC.out _)⟩
          case measure => simp [intOf]; omega
        · obtain rfl : nb = i := by omega
          go_wp2
          go_loopw [20] (fun z wr => ∃ i : Nat, z = .int .i64 i ∧ i ≤ nc ∧ Hid (Oth (fun k => w2.heap.size ≤ k ∧ k < w5.heap.size) w8 wr) ∧ Hid (WS (fun k => w2.heap.size ≤ k ∧ k < w5.heap.size) wr qa na) ∧ Hid (WS (fun k => w2.heap.size ≤ k ∧ k < w5.heap.size) wr qb nb) ∧ Hid (WS (fun k => w2.heap.size ≤ k ∧ k < w5.heap.size) wr qc nc)) (fun z _ => nc - (intOf z).toNat)
          case atStart => exact ⟨0, rfl, Nat.zero_le _, ho, hwa, hwb, hwc⟩
          case round =>
            clear ho hwa hwb hwc
            obtain ⟨i, rfl, hi, ho, hwa, hwb, hwc⟩ := hrel
            by_cases hlt : i < nc
            · have hii : (i : Int) < (nc : Int) := by omega
              obtain ⟨gq, oq, rfl, hS, hw⟩ := hwc.out (by omega)
              obtain ⟨hc1, hc2⟩ := hw i hlt
              obtain ⟨u, hu⟩ := Option.isSome_iff_exists.1 hc1
              have HO := Lib.hid (fun v => ho.out.set ⟨gq, oq + i, none⟩ hS v)
              have HA := Lib.hid (fun v => hwa.out.set ⟨gq, oq + i, none⟩ v)
              have HB := Lib.hid (fun v => hwb.out.set ⟨gq, oq + i, none⟩ v)
              have HC := Lib.hid (fun v => hwc.out.set ⟨gq, oq + i, none⟩ v)
              clear ho hwa hwb hwc hS hw hc1
              go_wp2
              go_roundw
              case rel => exact ⟨i + 1, by go_num, by omega, Lib.hid (HO.out _), Lib.hid (HA.out _), Lib.hid (HB.out _), Lib.hid (HC.out _)⟩
              case measure => simp [intOf]; omega
            · obtain rfl : nc = i := by omega
              go_wp2
              have HB20 := Lib.hid (HB28.out.trans (oth_below ho.out (fun k h1 h2 => absurd h2.1 (by omega)) HS2.out))
              have HSXl := Lib.hid (HSX8.out.oth HFX8.out ho.out (fun k h1 h2 => by omega)); have HSZl := Lib.hid ho.out.size
              have HBWl := Lib.hid (HB2.out.trans (HB20.out.mono HB2.out.size))
              have HOD := Lib.hid (fun d => gorder_any (w := wr.drewN d) (HIN.out.keep (bel_drew HB20.out d)) HB20.out.size)
              clear ho hwa hwb hwc HSX8 HFX8 HSA HSB HSC HFA HFB HFC HSX HFX HSY HSZ HE1 HE2 HE3 HCP HX HY HZ HOA HOB HOC HK
              obtain ⟨wl, hwl⟩ : ∃ wl, wl = wr := ⟨_, rfl⟩
              rw [← hwl] at HB20 HSXl HSZl HBWl HOD ⊢
              clear hwl
              go_loopw [21] (fun z wr => ∃ (i d : Nat), z = .int .i64 i ∧ i ≤ N ∧ Hid (wr = wl.drewN d)) (fun z _ => N - (intOf z).toNat)
              case atStart => exact ⟨0, 0, rfl, Nat.zero_le _, Lib.hid rfl⟩
              case round =>
                obtain ⟨i, d, rfl, hi, hwd⟩ := hrel
                obtain rfl := hwd.out
                clear hwd
                by_cases hlt : i < N
                · have hii : (i : Int) < (N : Int) := by omega
                  have hiL : i < L.length := by rw [← HNN.out]; exact hlt
                  obtain ⟨g, o, rfl, hg, hc⟩ := H2.out (by omega)
                  obtain ⟨vi, hvi, hir⟩ := hc i hiL
                  have hgd : L.getD i [] = L[i] := by rw [List.getD_eq_getElem?_getD, List.getElem?_eq_getElem hiL]; rfl
                  have hrow := HCS.out.row.cell i (by omega)
                  have hrl := HCS.out.row.lt
                  unfold cpF at hrow
                  rw [if_pos hiL, hgd] at hrow
                  obtain ⟨hcb1, hcb2⟩ := HCS.out.cb i hiL
                  rw [hgd] at hcb2
                  have hll := HLL.out i hiL
                  obtain ⟨l, hl⟩ : ∃ l, l = L[i] := ⟨_, rfl⟩
                  rw [← hl] at hrow hcb2 hir hll
                  obtain ⟨gi, hgi⟩ : ∃ gi, gi = gs i := ⟨_, rfl⟩
                  rw [← hgi] at hrow hcb1 hcb2
                  obtain ⟨m, hm⟩ : ∃ m, m = l.length := ⟨_, rfl⟩
                  have HM := Lib.hid hm
                  have c1 := (HB20.out.cell (p := ⟨w1.heap.size, i, none⟩) hrl).trans hrow
                  have c2 := (HBWl.out.cell (p := ⟨g, o + i, none⟩) (Nat.lt_of_lt_of_le hg HN.out)).trans hvi
                  have HSM := Lib.hid (show ∀ d, Calls Try.prog 11 #[.slice (some ⟨gi, 0, none⟩) m (m + 2), vi] (wl.drewN d) fun e w' => e = .returned (.bool true) ∧ ∃ d2, w' = wl.drewN d2 from fun d =>
                    (rsameI_true (n := wl.heap.size) (w := wl.drewN d) (l := l) ⟨some ⟨gi, 0, none⟩, m + 2, by rw [hm], fun _ => ⟨gi, 0, rfl, Nat.lt_of_lt_of_le hcb1 HB20.out.size, fun j hj => by
                      rw [Nat.zero_add]
                      show wl.cell? ⟨gi, j, none⟩ = _
                      rw [HB20.out.cell (p := ⟨gi, j, none⟩) hcb1, hcb2 j (by omega), List.getD_eq_getElem?_getD, List.getElem?_eq_getElem hj]
                      rfl⟩⟩ ((hir.keep (HBWl.out.mono HN.out)).more2 (Nat.le_trans HN.out HBWl.out.size)) hll).mono fun e w' ⟨h1, d2, h2⟩ => ⟨h1, d + d2, by rw [h2]; simp [go_sem]⟩)
                  have HCB := Lib.hid (show ∀ k, m ≤ k → k < m + 2 → wl.cell? ⟨gi, k, none⟩ = some (.int .i64 0) from fun k h1 h2 => by
                    rw [HB20.out.cell (p := ⟨gi, k, none⟩) hcb1, hcb2 k (by omega), List.getD_eq_getElem?_getD, List.getElem?_eq_none (by omega)]
                    rfl)
                  obtain ⟨pi, ci, rfl, -⟩ := hir
                  rw [← hm] at hrow hll c1 c2 HSM
                  clear hc hvi hgd hrow hcb1 hcb2 hgi hl hm
                  go_wp2_with fail
                  go_quiet (fail)
                  go_wp2_with fail
                  go_region_with (go_at_call 11; ((with_reducible refine (HSM.out _).mono ?_); rintro e w9 ⟨rfl, d9, rfl⟩))
                  all_goals
                    go_wp2
                    go_loopw [23] (fun z wr => ∃ (k d : Nat), z = .int .i64 k ∧ m ≤ k ∧ k ≤ m + 2 ∧ Hid (wr = wl.drewN d)) (fun z _ => m + 2 - (intOf z).toNat)
                    case atStart => exact ⟨m, _, rfl, Nat.le_refl _, by omega, Lib.hid rfl⟩
                    case round =>
                      obtain ⟨k, d7, rfl, hk1, hk2, hwd⟩ := hrel
                      obtain rfl := hwd.out
                      clear hwd
                      by_cases hlk : k < m + 2
                      · have hki : (k : Int) < ((m + 2 : Nat) : Int) := by omega
                        have ck := HCB.out k hk1 hlk
                        go_wp2
                        go_roundw
                        case rel => exact ⟨k + 1, _, by go_num, by omega, by omega, Lib.hid rfl⟩
                        case measure => simp [intOf]; omega
                      · have hki : ¬ (k : Int) < ((m + 2 : Nat) : Int) := by omega
                        go_wp2
                        go_roundw
                        case rel => exact ⟨i + 1, _, by go_num, by omega, Lib.hid rfl⟩
                        case measure => simp [intOf]; omega
                · have hii : ¬ (i : Int) < (N : Int) := by omega
                  have HSXd := Lib.hid (fun d => HSXl.out.keep (bel_drew (Below.refl _ wl) d))
                  go_wp2_with (first
                    | (go_at_call 10; ((with_reducible refine (HOD.out _).mono ?_); intro e w3 hq; obtain ⟨qd, cd, rfl, hb, hs, hf⟩ := MO.out _ _ _ hq; have HBD := Lib.hid hb; have HE := Lib.hid (rsame_self0 hs (((HSXd.out _).keep (hb.mono HSZl.out)).more (Nat.le_trans HSZl.out hb.size)) HOL.out); clear hb hs hf hq))
                    | (go_at_call 11; ((with_reducible refine HE.out.mono ?_); rintro e w9 ⟨rfl, d9, rfl⟩)))
                  go_ret
                  exact ⟨rfl, bel_drew (HBWl.out.trans (bel_undrew HBD.out |>.mono HBWl.out.size)) _⟩
end Go.Proofs.Ytdgdeognahmpmaa
