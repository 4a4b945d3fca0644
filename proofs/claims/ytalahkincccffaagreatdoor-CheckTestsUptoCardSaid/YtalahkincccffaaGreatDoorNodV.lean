/-
  The document's stack: the places of the parts of each node.
-/
import Derived.Test.YtalahkincccffaaGreatDoorBz
import Derived.Test.YtalahkincccffaaGreatDoorBd
import Derived.Deep.Upon
namespace Go.Proofs.YtalahkincccffaaGreatDoor
open Go.RowKit Num Word
attribute [local go_sem] setCell_drewN cell?_ext frozen?_ext shape?_ext setCell_ext lt_1' ne_1' en_1' le_1' lt_2' ne_2' en_2' le_2' lt_3' ne_3' en_3' le_3' lt_4' ne_4' en_4' le_4' lt_5' ne_5' en_5' le_5' lt_6' ne_6' en_6' le_6' lt_7' ne_7' en_7' le_7' lt_8' ne_8' en_8' le_8' lt_9' ne_9' en_9' le_9' lt_10' ne_10' en_10' le_10' lt_11' ne_11' en_11' le_11' lt_12' ne_12' en_12' le_12'

abbrev SlD := Option Addr × Nat × Nat
abbrev slV (s : SlD) : Value := .slice s.1 s.2.1 s.2.2
def slE (s : SlD) : List Value := [slV s]
def slK : El := { T := 53, S := 52, size := 1, bytes := 24, zero := .slice none 0 0 }
theorem slK_ok : slK.Ok Tryz.prog := ⟨Tryz.underlying52, by kernel_rfl, by rfl, by decide, by decide, by decide⟩
theorem slE_cells : Cells slK slE := fun s => ⟨rfl, fun u hu => by
  unfold slE at hu
  simp at hu
  subst hu
  rfl⟩
theorem RdP.kept {P S : Nat → Prop} {w w' : World} {v : Value} {l : List Nat} (h : RdP P w v l) (ho : Ot S w w') (hs : ∀ g, P g → ¬ S g) : RdP P w' v l := by
  rcases h with h | ⟨g, off, cap, rfl, hcap, hg, hP, hc⟩
  · exact .inl h
  · exact .inr ⟨g, off, cap, rfl, hcap, Nat.lt_of_lt_of_le hg ho.size, hP, fun j hj => by rw [ho.cell hg (hs g hP)]; exact hc j hj⟩
structure StS (w wr : World) (x y : Value) (H : List Nat) (P : List (List Nat)) : Prop where
  hv : RdP (fun g => x.ownBlock ≠ some g) wr y H
  nil : H = [] → y = .slice none 0 0
  parts : ∃ vals : List SlD, OL slK slE w.heap.size wr x vals ∧ vals.length = P.length ∧ ∀ i (h1 : i < vals.length) (h2 : i < P.length), RdP (fun g => x.ownBlock ≠ some g) wr (slV vals[i]) P[i]
  bel : Below w.heap.size w wr
def StQ (R : Option (List Nat × List (List Nat))) (w : World) (e : Ending) (w' : World) : Prop := Below w.heap.size w w' ∧ match R with
  | none => e = .returned (.tuple #[.slice none 0 0, .slice none 0 0, .bool false])
  | some q => ∃ x y, e = .returned (.tuple #[x, y, .bool true]) ∧ StS w w' x y q.1 q.2
def addP (P : List (List Nat)) (R : Option (List Nat × List (List Nat))) : Option (List Nat × List (List Nat)) := R.map fun q => (q.1, P ++ q.2)
theorem addP_step (P : List (List Nat)) (p : List Nat) (R : Option (List Nat × List (List Nat))) : addP P (R.map fun q => (q.1, p :: q.2)) = addP (P ++ [p]) R := by
  cases R with
  | none => rfl
  | some q => show some (q.1, P ++ (p :: q.2)) = some (q.1, (P ++ [p]) ++ q.2); rw [List.append_assoc]; rfl
theorem StS.next {w wr w1 w2 w4 : World} {x y y' : Value} {H H' : List Nat} {P : List (List Nat)} (h : StS w wr x y H P) {m1 : List Nat} {p1 : Option Addr} {c1 kk : Nat} (h1 : RdP (fun g => wr.heap.size ≤ g) w1 (.slice p1 kk c1) m1) (hb1 : Below wr.heap.size wr w1)
    {vals : List SlD} (hvl : vals.length = P.length) (hin : ∀ i (h1 : i < vals.length) (h2 : i < P.length), RdP (fun g => x.ownBlock ≠ some g) wr (slV vals[i]) P[i]) (hx : ∀ k, x.ownBlock = some k → w.heap.size ≤ k ∧ k < wr.heap.size)
    {g2 cap2 : Nat} (h2 : OL slK slE w.heap.size w2 (.slice (some ⟨g2, 0, none⟩) (vals.length + 1) cap2) (vals ++ [(p1, kk, c1)])) (ho : Ot (fun k => x.ownBlock = some k) w1 w2) (hat : x.ownBlock = some g2 ∨ w1.heap.size ≤ g2) (hg2 : g2 < w2.heap.size)
    (h4 : RdP (fun g => w2.heap.size ≤ g) w4 y' H') (hb4 : Below w2.heap.size w2 w4) (hne : H' ≠ []) : StS w w4 (.slice (some ⟨g2, 0, none⟩) (vals.length + 1) cap2) y' H' (P ++ [m1]) := by
  have hs1 := hb1.size
  have hs2 := ho.size
  have hs4 := hb4.size
  have hbw := h.bel.size
  refine ⟨h4.weak fun g _ hg e => by
    have : g2 = g := Option.some.inj e
    omega, fun e => absurd e hne, ⟨vals ++ [(p1, kk, c1)], OL.new h2 hb4, by rw [List.length_append, List.length_append, hvl]; rfl, fun i hi1 hi2 => ?_⟩, ?_⟩
  · by_cases hi : i < vals.length
    · have hi3 : i < P.length := by omega
      rw [List.getElem_append_left hi, List.getElem_append_left hi3]
      have e1 : RdP (fun g => g < wr.heap.size ∧ x.ownBlock ≠ some g) wr (slV vals[i]) P[i] := (hin i hi hi3).weak fun g hg hp => ⟨hg, hp⟩
      exact (((e1.later hb1).kept ho fun g hg e => hg.2 e).later hb4).weak fun g _ hg e => by
        have e2 : g2 = g := Option.some.inj e
        rcases hat with ha | ha
        · exact hg.2 (e2 ▸ ha)
        · omega
    · have hiP : i = P.length := by
        rw [List.length_append, List.length_singleton] at hi2; omega
      subst hiP
      have e0 : (vals ++ [(p1, kk, c1)])[P.length] = (p1, kk, c1) := by
        rw [List.getElem_append_right (by omega)]
        simp [hvl]
      have e3 : (P ++ [m1])[P.length] = m1 := by
        rw [List.getElem_append_right (by omega)]
        simp
      rw [e0, e3]
      have e1 : RdP (fun g => g < w1.heap.size ∧ wr.heap.size ≤ g) w1 (.slice p1 kk c1) m1 := h1.weak fun g hg hp => ⟨hg, hp⟩
      exact ((e1.kept ho fun g hg e => by have := (hx g e).2; omega).later hb4).weak fun g _ hg e => by
        have e2 : g2 = g := Option.some.inj e
        rcases hat with ha | ha
        · have := (hx g2 ha).2; omega
        · omega
  · exact h.bel.trans ((hb1.mono hbw).trans ((ho.below (by omega) fun k hk => (hx k hk).1).trans (hb4.mono (by omega))))
theorem IBuf.lit0 {W0 W : World} {b : Nat} (hb : b = W.heap.size) (hB : Below W0.heap.size W0 W) : IBuf W0.heap.size (.slice (some ⟨b, 0, none⟩) 0 0) [] W0 (W.alloc (.cells #[] 3)) := by
  subst hb
  exact IBuf.lit hB #[] [] rfl (by decide)
theorem append_rdk {ops : Array Oper} {rest : List Oper} {o : Oper} {a : Act} {Q : Exit → Act → World → Prop} {w : World} (hgd : o.guard = none) (s x : Operand)
    (ho : o.op = .call { callee := .builtin .append, args := #[s, x], argTypes := #[53, 53] })
    {B : Nat} {v : Value} {l : List Nat} {W0 : World} (hs : a.eval s = v) (hb : IBuf B v l W0 w) {g off cap k : Nat} {m : List Nat} (hk : m.length = k) (hx : a.eval x = .slice (some ⟨g, off, none⟩) k cap)
    (hc : ∀ j (hj : j < m.length), w.cell? ⟨g, off + j, none⟩ = some (.int .i64 (m[j] : Int))) (hlen : l.length + m.length ≤ 1000000)
    (h : ∀ v' w', IBuf B v' (l ++ m) W0 w' → wpList Tryz.prog ops Q rest (a.put o.dst v') w') : wpList Tryz.prog ops Q (o :: rest) a w := by
  subst hk
  exact append_rd hgd s x ho hs hb hx hc hlen h
theorem src_none0 {P : Program} {tx e' : TypeId} {size : Nat} (hk : P.underlying tx = some (.slice e')) (w : World) (p : Option Addr) (c : Nat) : Src P size tx (.slice p 0 c) 0 [] w := by
  cases p with
  | none => exact Src.ofNil w hk c
  | some a => exact Src.ofSlice w hk a 0 c [] (by simp) (fun j u hu => by simp at hu) (fun u hu => by cases hu)
theorem append_rd0 {ops : Array Oper} {rest : List Oper} {o : Oper} {a : Act} {Q : Exit → Act → World → Prop} {w : World} (hgd : o.guard = none) (s x : Operand)
    (ho : o.op = .call { callee := .builtin .append, args := #[s, x], argTypes := #[53, 53] })
    {B b : Nat} {W0 : World} (hs : a.eval s = .slice (some ⟨b, 0, none⟩) 0 0) (hb : IBuf B (.slice (some ⟨b, 0, none⟩) 0 0) [] W0 w) {p : Option Addr} {c : Nat} (hx : a.eval x = .slice p 0 c)
    (h : ∀ v' w', IBuf B v' [] W0 w' → wpList Tryz.prog ops Q rest (a.put o.dst v') w') : wpList Tryz.prog ops Q (o :: rest) a w := by
  obtain ⟨i0, hi, hz0, hz1, hz2⟩ := info_parts infoInt
  refine wpList_plain hgd fun K hK => ?_
  have hr := run_append_nothing (P := Tryz.prog) w 53 53 o.type 3 i0 Tryz.underlying53 hi (some ⟨b, 0, none⟩) 0 0 (Nat.le_refl _) (.slice p 0 c) (src_none0 Tryz.underlying53 w p c)
  unfold Oper.wp execOp
  simp only [ho, resolve, invoke, builtin, Sem.run_bind, Sem.run_pure, Result.andThen_ok, List.map_toArray, List.map_cons, List.map_nil, hs, hx, hr]
  exact hK _ _ (h _ _ hb)
set_option maxRecDepth 100000 in
set_option maxHeartbeats 8000000 in
theorem stack_any (l : List NdD) (m n : Nat) (hm : m ≤ l.length) (w : World) (v : Value) (hv : RL 8 ndE n w v l) (hn : n ≤ w.heap.size) (hl : l.length ≤ 1000) :
    Calls Tryz.prog 20 #[v, .int .i64 ((m : Int) - 1)] w fun e w' => StQ (stkP 0 (l.take m) []) w e w' := by
  obtain ⟨p, c, rfl, h2⟩ := hv
  have H2 := Lib.hid h2
  obtain ⟨len, hlen⟩ : ∃ len, len = l.length := ⟨_, rfl⟩
  have HL := Lib.hid hlen
  have HS0 := Lib.hid (show StS w w (.slice none 0 0) (.slice none 0 0) [] [] from ⟨.inl ⟨rfl, rfl⟩, fun _ => rfl, ⟨[], OL.nil _ _ _ _, rfl, fun i h => absurd h (Nat.not_lt_zero i)⟩, Below.refl _ _⟩)
  rw [← hlen] at hm hl ⊢
  obtain ⟨R, hR⟩ : ∃ R, R = stkP 0 (l.take m) [] := ⟨_, rfl⟩
  have HR0 := Lib.hid (show addP [] (stkP 0 ((l.take m).drop 0) []) = R by rw [hR, List.drop_zero]; cases stkP 0 (l.take m) [] <;> rfl)
  rw [← hR]
  clear h2 hlen hR
  go_enter Tryz.func20, Tryz.ntmps20
  go_wp2
  go_loopw [7, 8, 9] (fun y x z wr => ∃ (i : Nat) (H : List Nat) (P : List (List Nat)), z = .int .i64 i ∧ i ≤ m ∧ H.length ≤ i ∧ P.length = i ∧ Hid (StS w wr x y H P) ∧ Hid (addP P (stkP i ((l.take m).drop i) H) = R)) (fun _ _ z _ => m - (intOf z).toNat)
  case atStart => exact ⟨0, [], [], rfl, Nat.zero_le _, Nat.le_refl _, rfl, HS0, HR0⟩
  case round =>
    obtain ⟨i, H, P, rfl, him, hHi, hPi, hst, hru⟩ := hrel
    clear HS0 HR0
    have hsw := hst.out.bel.size
    have HBR := Lib.hid hst.out.bel
    have HST := Lib.hid hst.out
    obtain ⟨py, cy, hy, hcy⟩ := hst.out.hv.form
    obtain ⟨hn2, hhn⟩ : ∃ hn2, hn2 = H.length := ⟨_, rfl⟩
    have HHN := Lib.hid hhn
    rw [← hhn] at hy hcy hHi
    obtain rfl : u7 = .slice py hn2 cy := hy
    clear hhn hst
    by_cases hil : i < m
    · have hii : (i : Int) ≤ (m : Int) - 1 := by omega
      have hii2 : (i : Int) < (len : Int) := by omega
      have hil2 : i < l.length := by rw [← HL.out]; omega
      obtain ⟨g, o, rfl, hg, hc⟩ := H2.out (by omega)
      have hgr : g < wr.heap.size := by omega
      have hc2 : ∀ j (h : j < l.length) i u, (ndE l[j])[i]? = some u → wr.cell? ⟨g, o + j * 8 + i, none⟩ = some u := fun j hj i u hu => by
        rw [HBR.out.cell (p := ⟨g, _, none⟩) (Nat.lt_of_lt_of_le hg hn)]; exact hc j hj i u hu
      obtain ⟨oa, ka, ta, na, ca, sa, da, he, x0, x1, x2, x3, x4, x5, x6, x7⟩ := nd_cells hc2 i hil2
      have hdr : (l.take m).drop i = ⟨oa, ka, ta, na, ca, sa, da⟩ :: (l.take m).drop (i + 1) := by
        have hlt : i < (l.take m).length := by rw [List.length_take]; omega
        rw [List.drop_eq_getElem_cons hlt, List.getElem_take, he]
      have HRU := Lib.hid (show addP P (if takesN oa ka = true ∧ ka ≤ H.length then (stkP (i + 1) ((l.take m).drop (i + 1)) (H.take (H.length - ka.toNat) ++ [i])).map fun q => (q.1, H.drop (H.length - ka.toNat) :: q.2) else none) = R by rw [← hru.out, hdr]; rfl)
      have HT := Lib.hid (fun w => rkids_any oa ka w)
      obtain ⟨tk, htk⟩ : ∃ tk, tk = takesN oa ka := ⟨_, rfl⟩
      rw [← htk] at HT HRU
      have HTK := Lib.hid htk
      generalize (Word.hi ca : Int) = ha at *
      generalize (Word.lo ca : Int) = la at *
      clear hc hc2 he hdr hru htk
      cases tk with
      | false =>
        have HE := Lib.hid (show R = none by rw [← HRU.out]; rfl)
        go_wp2_with (first | (go_at_call 37; ((with_reducible refine (HT.out _).mono ?_); rintro e w' ⟨rfl, rfl⟩)))
        go_ret3
        rw [HE.out]
        exact ⟨HBR.out.trans (show Below w.heap.size wr _ by (repeat' (first | (with_reducible first | exact Below.refl _ _ | assumption | refine Below.alloc ?_ ?_ _ | refine below_drewN ?_ _ | refine below_drew ?_ | refine below_ext ?_ ?_ _ _ | refine Below.setCell ?_ ?_ _) | (simp; done) | (simp; omega) | omega))), rfl⟩
      | true =>
        have hk0 := takes_pos HTK.out.symm
        obtain ⟨kk, rfl⟩ : ∃ kk : Nat, ka = (kk : Int) := ⟨ka.toNat, by omega⟩
        by_cases hks : kk ≤ hn2
        · obtain ⟨r, hr⟩ : ∃ r, r = hn2 - kk := ⟨_, rfl⟩
          have E1 : (hn2 : Int) - (kk : Int) = (r : Int) := by omega
          have hks3 : ¬ (hn2 : Int) < (kk : Int) := by omega
          have hra : r + kk ≤ hn2 := by omega
          have hrb : hn2 ≤ r + kk := by omega
          have HRU2 := Lib.hid (show addP (P ++ [H.drop r]) (stkP (i + 1) ((l.take m).drop (i + 1)) (H.take r ++ [i])) = R by
            rw [← HRU.out, if_pos ⟨rfl, by rw [← HHN.out]; omega⟩, Int.toNat_natCast, ← HHN.out, ← hr, addP_step])
          clear hr
          obtain ⟨vals, hol, hvl, hin⟩ := HST.out.parts
          obtain ⟨q8, cap8, h8, -, -⟩ := OL.form hol
          subst h8
          have HVL := Lib.hid hvl
          have HIN := Lib.hid hin
          have HOX := Lib.hid (show ∀ k, (Value.slice q8 vals.length cap8).ownBlock = some k → w.heap.size ≤ k ∧ k < wr.heap.size from fun k hk => World.ownsRow.lt hol k hk)
          have HOL := Lib.hid (fun w' (hb : Below wr.heap.size wr w') => OL.new hol hb)
          have hvm : vals.length ≤ 1000000 := by omega
          obtain ⟨m1, hm1⟩ : ∃ m1, m1 = H.drop r := ⟨_, rfl⟩
          obtain ⟨m2, hm2⟩ : ∃ m2, m2 = H.take r := ⟨_, rfl⟩
          have HM1 := Lib.hid (show m1.length = kk by rw [hm1, List.length_drop, ← HHN.out]; omega)
          have HM2 := Lib.hid (show m2.length = r by rw [hm2, List.length_take, ← HHN.out]; omega)
          rw [← hm1, ← hm2] at HRU2
          clear hvl hin hol
          by_cases hH0 : hn2 = 0
          · subst hH0
            obtain rfl : kk = 0 := by omega
            have h00 : ((0 : Nat) : Int) = 0 := rfl
            rw [h00] at HT
            obtain rfl : r = 0 := by omega
            obtain rfl : m1 = [] := List.eq_nil_of_length_eq_zero HM1.out
            obtain rfl : m2 = [] := List.eq_nil_of_length_eq_zero HM2.out
            obtain ⟨rfl, rfl⟩ : py = none ∧ cy = 0 := by
              have e := HST.out.nil (List.eq_nil_of_length_eq_zero HHN.out.symm)
              injection e with e1 _ e3
              exact ⟨e1, e3⟩
            clear E1 hk0 hks hm1 hm2
            go_upto_region 11 with (first
              | (go_at_call 37; ((with_reducible refine (HT.out _).mono ?_); rintro e w' ⟨rfl, rfl⟩))
              | (at_builtin; refine append_rd0 rfl _ _ rfl rfl (IBuf.lit0 (W0 := wr) (by simp) (by (repeat' (first | (with_reducible first | exact Below.refl _ _ | assumption | refine Below.alloc ?_ ?_ _ | refine below_drewN ?_ _ | refine below_drew ?_ | refine below_ext ?_ ?_ _ _ | refine Below.setCell ?_ ?_ _) | (simp; done) | (simp; omega) | omega)))) rfl ?_; intro v1 w1 hb1; (try rw [List.nil_append] at hb1); obtain ⟨p1, c1, hv1, -⟩ := (IBuf.rd hb1).form; obtain rfl : v1 = .slice p1 0 c1 := hv1.trans (by first | rfl | rw [HM1.out]); clear hv1; have HB1 := Lib.hid (IBuf.rd hb1); have HW1 := Lib.hid hb1.2.1; have hsw1 := hb1.2.1.size; clear hb1)
              | (at_builtin; refine wpList_append_ol slK_ok slE_cells rfl _ _ rfl rfl w1 (p1, 0, c1) rfl (HOL.out _ HW1.out) (by simp [Act.eval]) hvm (by omega) ?_; intro g2 cap2 w2 hob3 hoth hat hg2 hsz2; have HO2 := Lib.hid hob3; have HT2 := Lib.hid hoth; have HA2 := Lib.hid hat; clear hob3 hoth hat))
            go_wp2_with (first
              | (at_builtin; refine append_rd0 rfl _ _ rfl rfl (IBuf.lit0 (W0 := w2) (by simp) (Below.refl _ _)) rfl ?_; intro v3 w3 hb3)
              | (at_builtin; refine append_int rfl _ _ rfl rfl w2 w3 i rfl hb3 (by simp [Act.eval]) (by simp) ?_; intro v4 w4 hb4))
            go_roundw
            case rel => exact ⟨i + 1, [] ++ [i], P ++ [[]], by go_num, by omega, by rw [List.length_append]; have := HM2.out; simp at this ⊢ <;> omega, by rw [List.length_append, hPi]; rfl, Lib.hid (HST.out.next HB1.out HW1.out HVL.out HIN.out HOX.out HO2.out HT2.out HA2.out hg2 (IBuf.rd hb4) hb4.2.1 (by simp)), HRU2⟩
            case measure => simp [intOf]; omega
          · obtain ⟨gh, oh, hgh, hyc, hyo⟩ : ∃ gh oh, py = some ⟨gh, oh, none⟩ ∧ (∀ j (hj : j < H.length), wr.cell? ⟨gh, oh + j, none⟩ = some (.int .i64 (H[j] : Int))) ∧ gh < wr.heap.size ∧ (Value.slice q8 vals.length cap8).ownBlock ≠ some gh := by
              rcases HST.out.hv with ⟨-, e⟩ | ⟨gh, oh, c2, e, -, h1, h2, h3⟩
              · rw [e] at HHN; exact absurd HHN.out hH0
              · injection e with e1 _ _
                exact ⟨gh, oh, e1, h3, h1, h2⟩
            subst hgh
            have HY1 := Lib.hid (show ∀ w', Below wr.heap.size wr w' → ∀ j (hj : j < m1.length), w'.cell? ⟨gh, oh + r + j, none⟩ = some (.int .i64 (m1[j] : Int)) from fun w' hb j hj => by
              subst hm1
              rw [hb.cell (p := ⟨gh, _, none⟩) hyo.1, List.getElem_drop, Nat.add_assoc]
              exact hyc (r + j) _)
            have HY2 := Lib.hid (show ∀ w1, Below wr.heap.size wr w1 → ∀ w2, Ot (fun k => (Value.slice q8 vals.length cap8).ownBlock = some k) w1 w2 → ∀ w3, Below w2.heap.size w2 w3 → ∀ j (hj : j < m2.length), w3.cell? ⟨gh, oh + j, none⟩ = some (.int .i64 (m2[j] : Int)) from fun w1 hb w2 ho w3 hb3 j hj => by
              have hs1 := hb.size
              have hs2 := ho.size
              subst hm2
              rw [hb3.cell (p := ⟨gh, _, none⟩) (by have := hyo.1; show gh < _; omega), ho.cell (by have := hyo.1; omega) hyo.2, hb.cell (p := ⟨gh, _, none⟩) hyo.1, List.getElem_take]
              exact hyc j _)
            clear hyc hm1 hm2
            by_cases hk9 : kk = 0
            · subst hk9
              have h00 : ((0 : Nat) : Int) = 0 := rfl
              rw [h00] at HT
              obtain rfl : r = hn2 := by omega
              obtain rfl : m1 = [] := List.eq_nil_of_length_eq_zero HM1.out
              clear E1 hk0 hks HY1
              have hcc : cy = r ∨ (r < cy ∧ ¬ cy = r) := by omega
              rcases hcc with rfl | ⟨hcc, hcc2⟩
              all_goals
                go_upto_region 11 with (first
                  | (go_at_call 37; ((with_reducible refine (HT.out _).mono ?_); rintro e w' ⟨rfl, rfl⟩))
                  | (at_builtin; refine append_rd0 rfl _ _ rfl rfl (IBuf.lit0 (W0 := wr) (by simp) (by (repeat' (first | (with_reducible first | exact Below.refl _ _ | assumption | refine Below.alloc ?_ ?_ _ | refine below_drewN ?_ _ | refine below_drew ?_ | refine below_ext ?_ ?_ _ _ | refine Below.setCell ?_ ?_ _) | (simp; done) | (simp; omega) | omega)))) rfl ?_; intro v1 w1 hb1; (try rw [List.nil_append] at hb1); obtain ⟨p1, c1, hv1, -⟩ := (IBuf.rd hb1).form; obtain rfl : v1 = .slice p1 0 c1 := hv1.trans (by first | rfl | rw [HM1.out]); clear hv1; have HB1 := Lib.hid (IBuf.rd hb1); have HW1 := Lib.hid hb1.2.1; have hsw1 := hb1.2.1.size; clear hb1)
                  | (at_builtin; refine wpList_append_ol slK_ok slE_cells rfl _ _ rfl rfl w1 (p1, 0, c1) rfl (HOL.out _ HW1.out) (by simp [Act.eval]) hvm (by omega) ?_; intro g2 cap2 w2 hob3 hoth hat hg2 hsz2; have HO2 := Lib.hid hob3; have HT2 := Lib.hid hoth; have HA2 := Lib.hid hat; clear hob3 hoth hat))
                go_wp2_with (first
                  | (at_builtin; refine append_rdk rfl _ _ rfl rfl (IBuf.lit0 (W0 := w2) (by simp) (Below.refl _ _)) HM2.out rfl (HY2.out _ HW1.out _ HT2.out _ (by (repeat' (first | (with_reducible first | exact Below.refl _ _ | assumption | refine Below.alloc ?_ ?_ _ | refine below_drewN ?_ _ | refine below_drew ?_ | refine below_ext ?_ ?_ _ _ | refine Below.setCell ?_ ?_ _) | (simp; done) | (simp; omega) | omega)))) (by have := HM2.out; simp; omega) ?_; intro v3 w3 hb3; rw [List.nil_append] at hb3)
                  | (at_builtin; refine append_int rfl _ _ rfl rfl w2 w3 i rfl hb3 (by simp [Act.eval]) (by have := HM2.out; omega) ?_; intro v4 w4 hb4))
                go_roundw
                case rel => exact ⟨i + 1, m2 ++ [i], P ++ [[]], by go_num, by omega, by rw [List.length_append]; have := HM2.out; simp at this ⊢ <;> omega, by rw [List.length_append, hPi]; rfl, Lib.hid (HST.out.next HB1.out HW1.out HVL.out HIN.out HOX.out HO2.out HT2.out HA2.out hg2 (IBuf.rd hb4) hb4.2.1 (by simp)), HRU2⟩
                case measure => simp [intOf]; omega
            · have hrc : r < cy := by omega
              have hrc2 : ¬ cy = r := by omega
              have hrs : (r : Int) ≤ (hn2 : Int) := by omega
              have hr1 : (0 : Int) ≤ (r : Int) := by omega
              have hsc : (hn2 : Int) ≤ (cy : Int) := by omega
              have hrs2 : r ≤ cy := by omega
              have hnr : hn2 - r = kk := by omega
              go_upto_region 11 with (first
                | (go_at_call 37; ((with_reducible refine (HT.out _).mono ?_); rintro e w' ⟨rfl, rfl⟩))
                | (at_builtin; refine append_rdk rfl _ _ rfl rfl (IBuf.lit0 (W0 := wr) (by simp) (by (repeat' (first | (with_reducible first | exact Below.refl _ _ | assumption | refine Below.alloc ?_ ?_ _ | refine below_drewN ?_ _ | refine below_drew ?_ | refine below_ext ?_ ?_ _ _ | refine Below.setCell ?_ ?_ _) | (simp; done) | (simp; omega) | omega)))) HM1.out rfl (HY1.out _ (by (repeat' (first | (with_reducible first | exact Below.refl _ _ | assumption | refine Below.alloc ?_ ?_ _ | refine below_drewN ?_ _ | refine below_drew ?_ | refine below_ext ?_ ?_ _ _ | refine Below.setCell ?_ ?_ _) | (simp; done) | (simp; omega) | omega)))) (by have := HM1.out; simp; omega) ?_; intro v1 w1 hb1; (try rw [List.nil_append] at hb1); obtain ⟨p1, c1, hv1, -⟩ := (IBuf.rd hb1).form; obtain rfl : v1 = .slice p1 kk c1 := hv1.trans (by first | rfl | rw [HM1.out]); clear hv1; have HB1 := Lib.hid (IBuf.rd hb1); have HW1 := Lib.hid hb1.2.1; have hsw1 := hb1.2.1.size; clear hb1)
                | (at_builtin; refine wpList_append_ol slK_ok slE_cells rfl _ _ rfl rfl w1 (p1, kk, c1) rfl (HOL.out _ HW1.out) (by simp [Act.eval]) hvm (by omega) ?_; intro g2 cap2 w2 hob3 hoth hat hg2 hsz2; have HO2 := Lib.hid hob3; have HT2 := Lib.hid hoth; have HA2 := Lib.hid hat; clear hob3 hoth hat))
              go_wp2_with (first
                | (at_builtin; refine append_rdk rfl _ _ rfl rfl (IBuf.lit0 (W0 := w2) (by simp) (Below.refl _ _)) HM2.out rfl (HY2.out _ HW1.out _ HT2.out _ (by (repeat' (first | (with_reducible first | exact Below.refl _ _ | assumption | refine Below.alloc ?_ ?_ _ | refine below_drewN ?_ _ | refine below_drew ?_ | refine below_ext ?_ ?_ _ _ | refine Below.setCell ?_ ?_ _) | (simp; done) | (simp; omega) | omega)))) (by have := HM2.out; simp; omega) ?_; intro v3 w3 hb3; rw [List.nil_append] at hb3)
                | (at_builtin; refine append_int rfl _ _ rfl rfl w2 w3 i rfl hb3 (by simp [Act.eval]) (by have := HM2.out; omega) ?_; intro v4 w4 hb4))
              go_roundw
              case rel => exact ⟨i + 1, m2 ++ [i], P ++ [m1], by go_num, by omega, by rw [List.length_append]; have := HM2.out; simp at this ⊢ <;> omega, by rw [List.length_append, hPi]; rfl, Lib.hid (HST.out.next HB1.out HW1.out HVL.out HIN.out HOX.out HO2.out HT2.out HA2.out hg2 (IBuf.rd hb4) hb4.2.1 (by simp)), HRU2⟩
              case measure => simp [intOf]; omega
        · have hks2 : (hn2 : Int) < (kk : Int) := by omega
          have HE := Lib.hid (show R = none by rw [← HRU.out, if_neg (fun h => by have := h.2; rw [← HHN.out] at this; omega)]; rfl)
          go_wp2_with (first | (go_at_call 37; ((with_reducible refine (HT.out _).mono ?_); rintro e w' ⟨rfl, rfl⟩)))
          go_ret3
          rw [HE.out]
          exact ⟨HBR.out.trans (show Below w.heap.size wr _ by (repeat' (first | (with_reducible first | exact Below.refl _ _ | assumption | refine Below.alloc ?_ ?_ _ | refine below_drewN ?_ _ | refine below_drew ?_ | refine below_ext ?_ ?_ _ _ | refine Below.setCell ?_ ?_ _) | (simp; done) | (simp; omega) | omega))), rfl⟩
    · obtain rfl : i = m := by omega
      have hii : ¬ (i : Int) ≤ (i : Int) - 1 := by omega
      have HE := Lib.hid (show R = some (H, P) by
        rw [← hru.out, List.drop_eq_nil_of_le (by rw [List.length_take]; omega)]
        show some (H, P ++ []) = _
        rw [List.append_nil])
      go_wp2
      go_ret3
      rw [HE.out]
      exact ⟨HBR.out, _, _, rfl, HST.out⟩
end Go.Proofs.YtalahkincccffaaGreatDoor
