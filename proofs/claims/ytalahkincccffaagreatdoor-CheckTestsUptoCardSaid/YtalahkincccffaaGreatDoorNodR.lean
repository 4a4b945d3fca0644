/-
  measure: how deep the deepest node is, and whether all of them are in form.
-/
import Derived.Test.YtalahkincccffaaGreatDoorBy
import Derived.Deep.RegionLaw
import Derived.Deep.CutRange
import Derived.Deep.CutBlock
import Derived.Deep.DeepCutAuto
namespace Go.Proofs.YtalahkincccffaaGreatDoor
open Go.RowKit Go.Maps Go.WideMaps Word Txt
attribute [local go_sem] setCell_drewN cell?_ext frozen?_ext shape?_ext setCell_ext lt_1' ne_1' en_1' le_1' lt_2' ne_2' en_2' le_2' lt_3' ne_3' en_3' le_3' lt_4' ne_4' en_4' le_4' lt_5' ne_5' en_5' le_5' lt_6' ne_6' en_6' le_6' lt_7' ne_7' en_7' le_7' lt_8' ne_8' en_8' le_8' lt_9' ne_9' en_9' le_9' lt_10' ne_10' en_10' le_10' lt_11' ne_11' en_11' le_11' lt_12' ne_12' en_12' le_12'

def depA : Nat → List (Nat × Nat) → Nat
  | d, [] => d
  | d, p :: ps => depA (max d (p.2 + 1)) ps
noncomputable def stepN (l : List NdD) (x : NdD) (st : List (Nat × Nat)) : Bool := takesN x.op x.k && (decide (x.k ≤ st.length) && (filledB x.op x.t x.neg x.c x.s x.day && suitedB l x.op (st.drop (st.length - x.k.toNat))))
def nextN (i : Nat) (x : NdD) (st : List (Nat × Nat)) : List (Nat × Nat) := st.take (st.length - x.k.toNat) ++ [(i, depA 1 (st.drop (st.length - x.k.toNat)))]
noncomputable def measM (l : List NdD) : Nat → List NdD → List (Nat × Nat) → Nat → Option (List (Nat × Nat) × Nat)
  | _, [], st, d => some (st, d)
  | i, x :: r, st, d => if stepN l x st then measM l (i + 1) r (nextN i x st) (max d (depA 1 (st.drop (st.length - x.k.toNat)))) else none
def measD (R : Option (List (Nat × Nat) × Nat)) : Int := ((R.map (·.2)).getD 0 : Nat)
def measO (R : Option (List (Nat × Nat) × Nat)) : Bool := match R with | some s => decide (s.1.length = 1) | none => false
theorem max_one (a : Nat) : Value.int .i64 (max (a : Int) 1) = Value.int .i64 ((max a 1 : Nat) : Int) := by rw [show ((max a 1 : Nat) : Int) = max (a : Int) 1 by omega]
theorem max_two (a b : Nat) : Value.int .i64 (max (a : Int) (b : Int)) = Value.int .i64 ((max a b : Nat) : Int) := by rw [show ((max a b : Nat) : Int) = max (a : Int) (b : Int) by omega]
theorem max_suc (a b : Nat) : Value.int .i64 (max (a : Int) ((b : Int) + 1)) = Value.int .i64 ((max a (b + 1) : Nat) : Int) := by rw [show ((max a (b + 1) : Nat) : Int) = max (a : Int) ((b : Int) + 1) by omega]
theorem takes_pos {op k : Int} (h : takesN op k = true) : 0 ≤ k := by
  unfold takesN at h
  split at h
  · have := of_decide_eq_true h; omega
  split at h
  · have := of_decide_eq_true h; omega
  split at h
  · have := of_decide_eq_true h; omega
  split at h
  · have := of_decide_eq_true h; omega
  split at h
  · rw [Bool.and_eq_true, decide_eq_true_eq] at h; exact h.1
  split at h
  · exact of_decide_eq_true h
  split at h
  · have := of_decide_eq_true h; omega
  · cases h
theorem depA_le : ∀ (ps : List (Nat × Nat)) (d m : Nat), d ≤ m → (∀ p ∈ ps, p.2 + 1 ≤ m) → depA d ps ≤ m
  | [], _, _, h, _ => h
  | p :: ps, d, m, h, hp => depA_le ps _ m (Nat.max_le.2 ⟨h, hp p (by simp)⟩) fun q hq => hp q (by simp [hq])
set_option maxRecDepth 100000 in
set_option maxHeartbeats 8000000 in
theorem measure_any (l : List NdD) (n : Nat) (w : World) (v : Value) (hv : RL 8 ndE n w v l) (hn : n ≤ w.heap.size) (hl : l.length ≤ 1000) (hwf : ∀ x ∈ l, x.Wf) (hT : Tens w) (hU : Tabs w) :
    Calls Tryz.prog 27 #[v] w fun e w' => e = .returned (.tuple #[.int .i64 (measD (measM l 0 l [] 0)), .bool (measO (measM l 0 l [] 0))]) ∧ Below w.heap.size w w' := by
  have HD0 := Lib.hid (OL.nil itmK itmE w.heap.size w)
  have HB0 := Lib.hid (Below.refl w.heap.size w)
  have HV := Lib.hid hv
  obtain ⟨p, c, rfl, h2⟩ := hv
  have H2 := Lib.hid h2
  have HWF := Lib.hid hwf
  have HTT := Lib.hid (fun w' (hb : Below w.heap.size w w') => hT.below hb)
  have HUU := Lib.hid (fun w' (hb : Below w.heap.size w w') => hU.below hb)
  obtain ⟨len, hlen⟩ : ∃ len, len = l.length := ⟨_, rfl⟩
  have HL := Lib.hid hlen
  rw [← hlen] at hl HV ⊢
  obtain ⟨R, hR⟩ : ∃ R, R = measM l 0 l [] 0 := ⟨_, rfl⟩
  have HR0 := Lib.hid hR
  rw [← hR]
  clear h2 hwf hlen hR hT hU
  go_enter Tryz.func27, Tryz.ntmps27
  go_wp2
  go_loopw [4, 5, 14] (fun x y z wr => ∃ (i d : Nat) (st : List (Nat × Nat)), z = .int .i64 i ∧ i ≤ len ∧ y = .int .i64 d ∧ d ≤ i ∧ st.length ≤ i ∧ Hid (OL itmK itmE w.heap.size wr x st) ∧ Hid (Below w.heap.size w wr) ∧ Hid (measM l i (l.drop i) st d = R) ∧ Hid (∀ p ∈ st, p.1 < i ∧ p.2 ≤ i)) (fun _ _ z _ => len - (intOf z).toNat)
  case atStart => exact ⟨0, 0, [], rfl, Nat.zero_le _, rfl, Nat.le_refl _, Nat.le_refl _, HD0, HB0, Lib.hid HR0.out.symm, Lib.hid (by simp)⟩
  case round =>
    obtain ⟨i, d, st, rfl, hile, rfl, hdi, hsti, hol, hbe, hme, hpl⟩ := hrel
    clear HD0 HB0 HR0
    have hsw := hbe.out.size
    have HBR := Lib.hid hbe.out
    obtain ⟨q, cp, hvs, hq, hcp⟩ := OL.form hol.out
    have HOWN := Lib.hid (show ∀ n k2, (Value.slice q n cp).ownBlock = some k2 → w.heap.size ≤ k2 from fun n k2 h2 => (World.ownsRow.lt hol.out k2 (by rw [hvs]; cases q <;> exact h2)).1)
    have HOL := Lib.hid (show OL itmK itmE w.heap.size wr (.slice q st.length cp) st from by rw [← hvs]; exact hol.out)
    obtain ⟨sn, hsn⟩ : ∃ sn, sn = st.length := ⟨_, rfl⟩
    have HSN := Lib.hid hsn
    rw [← hsn] at hvs hq hcp hsti HOL
    obtain rfl : u4 = .slice q sn cp := hvs
    clear hsn hol
    by_cases hil : i < len
    · have hii : (i : Int) < (len : Int) := by omega
      have hil2 : i < l.length := by rw [← HL.out]; exact hil
      obtain ⟨g, o, rfl, hg, hc⟩ := H2.out (by omega)
      have hgr : g < wr.heap.size := by omega
      have hc2 : ∀ j (h : j < l.length) i u, (ndE l[j])[i]? = some u → wr.cell? ⟨g, o + j * 8 + i, none⟩ = some u := fun j hj i u hu => by
        rw [hbe.out.cell (p := ⟨g, _, none⟩) (Nat.lt_of_lt_of_le hg hn)]; exact hc j hj i u hu
      obtain ⟨oa, ka, ta, na, ca, sa, da, he, x0, x1, x2, x3, x4, x5, x6, x7⟩ := nd_cells hc2 i hil2
      have hwx := HWF.out _ (List.getElem_mem hil2)
      rw [he] at hwx
      obtain ⟨hta, hca, hka⟩ := hwx
      simp only at hta hca hka
      have hdr : l.drop i = ⟨oa, ka, ta, na, ca, sa, da⟩ :: l.drop (i + 1) := by rw [List.drop_eq_getElem_cons hil2, he]
      have HME := Lib.hid (show (if stepN l ⟨oa, ka, ta, na, ca, sa, da⟩ st then measM l (i + 1) (l.drop (i + 1)) (nextN i ⟨oa, ka, ta, na, ca, sa, da⟩ st) (max d (depA 1 (st.drop (st.length - ka.toNat)))) else none) = R by rw [← hme.out, hdr]; rfl)
      have HT := Lib.hid (fun w => etakes_any oa ka w)
      obtain ⟨tk, htk⟩ : ∃ tk, tk = takesN oa ka := ⟨_, rfl⟩
      rw [← htk] at HT
      have HTK := Lib.hid htk
      have HF := Lib.hid (fun w' (hb : Below wr.heap.size wr w') => filled_any oa ka ta na ca sa da hta hca w' (HTT.out _ (hbe.out.trans (hb.mono hsw))) (HUU.out _ (hbe.out.trans (hb.mono hsw))))
      obtain ⟨fl, hfl⟩ : ∃ fl, fl = filledB oa ta na ca sa da := ⟨_, rfl⟩
      rw [← hfl] at HF
      have HFL := Lib.hid hfl
      generalize (Word.hi ca : Int) = ha at *
      generalize (Word.lo ca : Int) = la at *
      clear hc hc2 he hdr hme htk hfl hta hca hbe
      cases tk with
      | false =>
        have HE := Lib.hid (show R = none by rw [← HME.out, show stepN l ⟨oa, ka, ta, na, ca, sa, da⟩ st = false by unfold stepN; rw [← HTK.out]; rfl]; rfl)
        go_upto_region 7 with fail
        refine wp_region_held_drew (S := fun w' => w'.cell? ⟨wr.heap.size, 0, none⟩ = some (.int .i64 oa) ∧ w'.cell? ⟨wr.heap.size, 1, none⟩ = some (.int .i64 ka) ∧ w'.cell? ⟨wr.heap.size, 2, none⟩ = some (.string ta) ∧ w'.cell? ⟨wr.heap.size, 3, none⟩ = some (.bool na) ∧ w'.cell? ⟨wr.heap.size, 4, none⟩ = some (.int .u64 ha) ∧ w'.cell? ⟨wr.heap.size, 5, none⟩ = some (.int .u64 la) ∧ w'.cell? ⟨wr.heap.size, 6, none⟩ = some (.int .i64 sa) ∧ w'.cell? ⟨wr.heap.size, 7, none⟩ = some (.int .i64 da)) (by kernel_rfl) ?c1xhSa (fun hHeld => ?c1xresta)
        case c1xhSa => ((try dsimp only); (simp [go_sem]))
        refine wpAnyH_take (i := 0) (oi := ({ dst := some 24, op := Op.fieldAddr 39 (Operand.tmp 7) 0, type := 0, pos := "form.go:29", after := #[], guard := none } : Oper)) (v := ?c1xv1) rfl (by kernel_rfl) (by kernel_rfl) (by kernel_rfl) (fun _ _ _ h => h) (Or.inl ⟨by rfl, ?c1xhy1⟩) (by assumption) ?c1xre1
        case c1xhy1 => (intro w hSw; (try dsimp only at hSw); go_simp; try with_reducible rfl)
        (try simp only [Act.put, List.setIfInBounds_toArray, List.set_cons_zero, List.set_cons_succ])
        refine wpAnyH_take (i := 1) (oi := ({ dst := some 25, op := Op.load 3 (Operand.tmp 24), type := 3, pos := "form.go:29", after := #[{ on := 0, ground := Ground.data }], guard := none } : Oper)) (v := ?c1xv2) rfl (by kernel_rfl) (by kernel_rfl) (by kernel_rfl) (fun _ _ _ h => h) (Or.inl ⟨by rfl, ?c1xhy2⟩) (by assumption) ?c1xre2
        case c1xhy2 => (intro w hSw; (try dsimp only at hSw); go_simp; try with_reducible rfl)
        (try simp only [Act.put, List.setIfInBounds_toArray, List.set_cons_zero, List.set_cons_succ])
        refine wpAnyH_take (i := 2) (oi := ({ dst := some 26, op := Op.fieldAddr 39 (Operand.tmp 7) 1, type := 0, pos := "form.go:29", after := #[], guard := none } : Oper)) (v := ?c1xv3) rfl (by kernel_rfl) (by kernel_rfl) (by kernel_rfl) (fun _ _ _ h => h) (Or.inl ⟨by rfl, ?c1xhy3⟩) (by assumption) ?c1xre3
        case c1xhy3 => (intro w hSw; (try dsimp only at hSw); go_simp; try with_reducible rfl)
        (try simp only [Act.put, List.setIfInBounds_toArray, List.set_cons_zero, List.set_cons_succ])
        refine wpAnyH_take (i := 3) (oi := ({ dst := some 27, op := Op.load 3 (Operand.tmp 26), type := 3, pos := "form.go:29", after := #[{ on := 2, ground := Ground.data }], guard := none } : Oper)) (v := ?c1xv4) rfl (by kernel_rfl) (by kernel_rfl) (by kernel_rfl) (fun _ _ _ h => h) (Or.inl ⟨by rfl, ?c1xhy4⟩) (by assumption) ?c1xre4
        case c1xhy4 => (intro w hSw; (try dsimp only at hSw); go_simp; try with_reducible rfl)
        (try simp only [Act.put, List.setIfInBounds_toArray, List.set_cons_zero, List.set_cons_succ])
        refine wpAnyH_ready (rs := [4]) (by kernel_rfl) (by simp) ?_
        refine AllReadyH.cons (o := ({ dst := some 28, op := Op.call { callee := Callee.value (Operand.func 46), args := #[Operand.tmp 25, Operand.tmp 27], argTypes := #[3, 3] }, type := 4, pos := "form.go:29", after := #[{ on := 1, ground := Ground.data }, { on := 3, ground := Ground.data }], guard := none } : Oper)) rfl (fun K hK => ?_) AllReadyH.nil
        go_simp
        (go_at_call 46; (with_reducible refine (HT.out _).mono ?_); rintro e w2 ⟨rfl, rfl⟩)
        refine hK.out _ _ ?c1xhS5 (fun hHeldN => ?c1xrst5)
        case c1xhS5 => ((try dsimp only); (simp [go_sem]))
        clear hHeld hK K
        have hHeld := hHeldN
        clear hHeldN
        refine wpAnyH_take (i := 5) (oi := ({ dst := some 29, op := Op.unOp UnOp.not 4 (Operand.tmp 28), type := 4, pos := "form.go:29", after := #[{ on := 4, ground := Ground.data }], guard := none } : Oper)) (v := ?c1xv6) rfl (by kernel_rfl) (by kernel_rfl) (by kernel_rfl) (fun _ _ _ h => h) (Or.inl ⟨by rfl, ?c1xhy6⟩) (by assumption) ?c1xre6
        case c1xhy6 => (intro w hSw; (try dsimp only at hSw); go_simp; try with_reducible rfl)
        (try simp only [Act.put, List.setIfInBounds_toArray, List.set_cons_zero, List.set_cons_succ])
        refine wpAnyH_take (i := 6) (oi := ({ dst := some 30, op := Op.move (Operand.tmp 29), type := 4, pos := "form.go:29", after := #[{ on := 5, ground := Ground.data }, { on := 4, ground := Ground.chain }], guard := none } : Oper)) (v := ?c1xv7) rfl (by kernel_rfl) (by kernel_rfl) (by kernel_rfl) (fun _ _ _ h => h) (Or.inl ⟨by rfl, ?c1xhy7⟩) (by assumption) ?c1xre7
        case c1xhy7 => (intro w hSw; (try dsimp only at hSw); go_simp; try with_reducible rfl)
        (try simp only [Act.put, List.setIfInBounds_toArray, List.set_cons_zero, List.set_cons_succ])
        refine wpAnyH_take (i := 7) (oi := ({ dst := some 31, op := Op.move (Operand.tmp 8), type := 3, pos := "form.go:29", after := #[{ on := 6, ground := Ground.guard }], guard := some (6, false) } : Oper)) (v := undef) rfl (by kernel_rfl) (by kernel_rfl) (by kernel_rfl) (fun _ _ _ h => h) (Or.inr ⟨by rfl, rfl⟩) (by assumption) ?c1xre8
        (try simp only [Act.put, List.setIfInBounds_toArray, List.set_cons_zero, List.set_cons_succ])
        refine wpAnyH_take (i := 8) (oi := ({ dst := some 32, op := Op.binOp BinOp.lss 3 (Operand.tmp 31) (Operand.const (Value.int IntKind.i64 0)) 3, type := 4, pos := "form.go:29", after := #[{ on := 7, ground := Ground.data }, { on := 6, ground := Ground.guard }], guard := some (6, false) } : Oper)) (v := undef) rfl (by kernel_rfl) (by kernel_rfl) (by kernel_rfl) (fun _ _ _ h => h) (Or.inr ⟨by rfl, rfl⟩) (by assumption) ?c1xre9
        (try simp only [Act.put, List.setIfInBounds_toArray, List.set_cons_zero, List.set_cons_succ])
        refine wpAnyH_take (i := 9) (oi := ({ dst := some 33, op := Op.pick (Operand.tmp 30) (Operand.const (Value.bool true)) (Operand.tmp 32), type := 4, pos := "form.go:29", after := #[{ on := 6, ground := Ground.data }, { on := 8, ground := Ground.data }], guard := none } : Oper)) (v := ?c1xv10) rfl (by kernel_rfl) (by kernel_rfl) (by kernel_rfl) (fun _ _ _ h => h) (Or.inl ⟨by rfl, ?c1xhy10⟩) (by assumption) ?c1xre10
        case c1xhy10 => (intro w hSw; (try dsimp only at hSw); go_simp; try with_reducible rfl)
        (try simp only [Act.put, List.setIfInBounds_toArray, List.set_cons_zero, List.set_cons_succ])
        refine wpAnyH_take (i := 10) (oi := ({ dst := some 34, op := Op.move (Operand.tmp 33), type := 4, pos := "form.go:29", after := #[{ on := 9, ground := Ground.data }, { on := 6, ground := Ground.chain }], guard := none } : Oper)) (v := ?c1xv11) rfl (by kernel_rfl) (by kernel_rfl) (by kernel_rfl) (fun _ _ _ h => h) (Or.inl ⟨by rfl, ?c1xhy11⟩) (by assumption) ?c1xre11
        case c1xhy11 => (intro w hSw; (try dsimp only at hSw); go_simp; try with_reducible rfl)
        (try simp only [Act.put, List.setIfInBounds_toArray, List.set_cons_zero, List.set_cons_succ])
        refine wpAnyH_take (i := 11) (oi := ({ dst := some 35, op := Op.load 39 (Operand.tmp 7), type := 39, pos := "form.go:29", after := #[{ on := 10, ground := Ground.guard }], guard := some (10, false) } : Oper)) (v := undef) rfl (by kernel_rfl) (by kernel_rfl) (by kernel_rfl) (fun _ _ _ h => h) (Or.inr ⟨by rfl, rfl⟩) (by assumption) ?c1xre12
        (try simp only [Act.put, List.setIfInBounds_toArray, List.set_cons_zero, List.set_cons_succ])
        refine wpAnyH_take (i := 12) (oi := ({ dst := some 36, op := Op.call { callee := Callee.value (Operand.func 47), args := #[Operand.tmp 35], argTypes := #[39] }, type := 4, pos := "form.go:29", after := #[{ on := 11, ground := Ground.data }, { on := 10, ground := Ground.chain }, { on := 10, ground := Ground.guard }], guard := some (10, false) } : Oper)) (v := undef) rfl (by kernel_rfl) (by kernel_rfl) (by kernel_rfl) (fun _ _ _ h => h) (Or.inr ⟨by rfl, rfl⟩) (by assumption) ?c1xre13
        (try simp only [Act.put, List.setIfInBounds_toArray, List.set_cons_zero, List.set_cons_succ])
        refine wpAnyH_take (i := 13) (oi := ({ dst := some 37, op := Op.unOp UnOp.not 4 (Operand.tmp 36), type := 4, pos := "form.go:29", after := #[{ on := 12, ground := Ground.data }, { on := 10, ground := Ground.guard }], guard := some (10, false) } : Oper)) (v := undef) rfl (by kernel_rfl) (by kernel_rfl) (by kernel_rfl) (fun _ _ _ h => h) (Or.inr ⟨by rfl, rfl⟩) (by assumption) ?c1xre14
        (try simp only [Act.put, List.setIfInBounds_toArray, List.set_cons_zero, List.set_cons_succ])
        refine wpAnyH_take (i := 14) (oi := ({ dst := some 38, op := Op.pick (Operand.tmp 34) (Operand.const (Value.bool true)) (Operand.tmp 37), type := 4, pos := "form.go:29", after := #[{ on := 10, ground := Ground.data }, { on := 13, ground := Ground.data }], guard := none } : Oper)) (v := ?c1xv15) rfl (by kernel_rfl) (by kernel_rfl) (by kernel_rfl) (fun _ _ _ h => h) (Or.inl ⟨by rfl, ?c1xhy15⟩) (by assumption) ?c1xre15
        case c1xhy15 => (intro w hSw; (try dsimp only at hSw); go_simp; try with_reducible rfl)
        (try simp only [Act.put, List.setIfInBounds_toArray, List.set_cons_zero, List.set_cons_succ])
        refine wpAnyH_take (i := 15) (oi := ({ dst := some 39, op := Op.move (Operand.tmp 38), type := 4, pos := "form.go:29", after := #[{ on := 14, ground := Ground.data }, { on := 12, ground := Ground.chain }], guard := none } : Oper)) (v := ?c1xv16) rfl (by kernel_rfl) (by kernel_rfl) (by kernel_rfl) (fun _ _ _ h => h) (Or.inl ⟨by rfl, ?c1xhy16⟩) (by assumption) ?c1xre16
        case c1xhy16 => (intro w hSw; (try dsimp only at hSw); go_simp; try with_reducible rfl)
        (try simp only [Act.put, List.setIfInBounds_toArray, List.set_cons_zero, List.set_cons_succ])
        refine wpAnyH_take (i := 16) (oi := ({ dst := some 40, op := Op.move (Operand.tmp 0), type := 22, pos := "form.go:29", after := #[{ on := 15, ground := Ground.guard }], guard := some (15, false) } : Oper)) (v := undef) rfl (by kernel_rfl) (by kernel_rfl) (by kernel_rfl) (fun _ _ _ h => h) (Or.inr ⟨by rfl, rfl⟩) (by assumption) ?c1xre17
        (try simp only [Act.put, List.setIfInBounds_toArray, List.set_cons_zero, List.set_cons_succ])
        refine wpAnyH_take (i := 17) (oi := ({ dst := some 41, op := Op.fieldAddr 39 (Operand.tmp 7) 0, type := 0, pos := "form.go:29", after := #[{ on := 15, ground := Ground.guard }], guard := some (15, false) } : Oper)) (v := undef) rfl (by kernel_rfl) (by kernel_rfl) (by kernel_rfl) (fun _ _ _ h => h) (Or.inr ⟨by rfl, rfl⟩) (by assumption) ?c1xre18
        (try simp only [Act.put, List.setIfInBounds_toArray, List.set_cons_zero, List.set_cons_succ])
        refine wpAnyH_take (i := 18) (oi := ({ dst := some 42, op := Op.load 3 (Operand.tmp 41), type := 3, pos := "form.go:29", after := #[{ on := 17, ground := Ground.data }, { on := 15, ground := Ground.guard }], guard := some (15, false) } : Oper)) (v := undef) rfl (by kernel_rfl) (by kernel_rfl) (by kernel_rfl) (fun _ _ _ h => h) (Or.inr ⟨by rfl, rfl⟩) (by assumption) ?c1xre19
        (try simp only [Act.put, List.setIfInBounds_toArray, List.set_cons_zero, List.set_cons_succ])
        refine wpAnyH_take (i := 19) (oi := ({ dst := some 43, op := Op.move (Operand.tmp 4), type := 85, pos := "form.go:29", after := #[{ on := 15, ground := Ground.guard }], guard := some (15, false) } : Oper)) (v := undef) rfl (by kernel_rfl) (by kernel_rfl) (by kernel_rfl) (fun _ _ _ h => h) (Or.inr ⟨by rfl, rfl⟩) (by assumption) ?c1xre20
        (try simp only [Act.put, List.setIfInBounds_toArray, List.set_cons_zero, List.set_cons_succ])
        refine wpAnyH_take (i := 20) (oi := ({ dst := some 44, op := Op.move (Operand.tmp 8), type := 3, pos := "form.go:29", after := #[{ on := 15, ground := Ground.guard }], guard := some (15, false) } : Oper)) (v := undef) rfl (by kernel_rfl) (by kernel_rfl) (by kernel_rfl) (fun _ _ _ h => h) (Or.inr ⟨by rfl, rfl⟩) (by assumption) ?c1xre21
        (try simp only [Act.put, List.setIfInBounds_toArray, List.set_cons_zero, List.set_cons_succ])
        refine wpAnyH_take (i := 21) (oi := ({ dst := some 45, op := Op.slice 85 (Operand.tmp 43) (some (Operand.tmp 44)) none none, type := 85, pos := "form.go:29", after := #[{ on := 19, ground := Ground.data }, { on := 20, ground := Ground.data }, { on := 15, ground := Ground.guard }], guard := some (15, false) } : Oper)) (v := undef) rfl (by kernel_rfl) (by kernel_rfl) (by kernel_rfl) (fun _ _ _ h => h) (Or.inr ⟨by rfl, rfl⟩) (by assumption) ?c1xre22
        (try simp only [Act.put, List.setIfInBounds_toArray, List.set_cons_zero, List.set_cons_succ])
        refine wpAnyH_take (i := 22) (oi := ({ dst := some 46, op := Op.call { callee := Callee.value (Operand.func 48), args := #[Operand.tmp 40, Operand.tmp 42, Operand.tmp 45], argTypes := #[22, 3, 85] }, type := 4, pos := "form.go:29", after := #[{ on := 16, ground := Ground.data }, { on := 18, ground := Ground.data }, { on := 21, ground := Ground.data }, { on := 15, ground := Ground.chain }, { on := 15, ground := Ground.guard }], guard := some (15, false) } : Oper)) (v := undef) rfl (by kernel_rfl) (by kernel_rfl) (by kernel_rfl) (fun _ _ _ h => h) (Or.inr ⟨by rfl, rfl⟩) (by assumption) ?c1xre23
        (try simp only [Act.put, List.setIfInBounds_toArray, List.set_cons_zero, List.set_cons_succ])
        refine wpAnyH_take (i := 23) (oi := ({ dst := some 47, op := Op.unOp UnOp.not 4 (Operand.tmp 46), type := 4, pos := "form.go:29", after := #[{ on := 22, ground := Ground.data }, { on := 15, ground := Ground.guard }], guard := some (15, false) } : Oper)) (v := undef) rfl (by kernel_rfl) (by kernel_rfl) (by kernel_rfl) (fun _ _ _ h => h) (Or.inr ⟨by rfl, rfl⟩) (by assumption) ?c1xre24
        (try simp only [Act.put, List.setIfInBounds_toArray, List.set_cons_zero, List.set_cons_succ])
        refine wpAnyH_take (i := 24) (oi := ({ dst := some 48, op := Op.pick (Operand.tmp 39) (Operand.const (Value.bool true)) (Operand.tmp 47), type := 4, pos := "form.go:29", after := #[{ on := 15, ground := Ground.data }, { on := 23, ground := Ground.data }], guard := none } : Oper)) (v := ?c1xv25) rfl (by kernel_rfl) (by kernel_rfl) (by kernel_rfl) (fun _ _ _ h => h) (Or.inl ⟨by rfl, ?c1xhy25⟩) (by assumption) ?c1xre25
        case c1xhy25 => (intro w hSw; (try dsimp only at hSw); go_simp; try with_reducible rfl)
        (try simp only [Act.put, List.setIfInBounds_toArray, List.set_cons_zero, List.set_cons_succ])
        refine wpAnyH_done (by kernel_rfl) ?_ _
        clear hHeld
        go_wp2
        go_ret2
        rw [HE.out]
        exact ⟨rfl, HBR.out.trans (show Below w.heap.size wr _ by (repeat' (first | (with_reducible first | exact Below.refl _ _ | assumption | refine Below.alloc ?_ ?_ _ | refine below_drewN ?_ _ | refine below_drew ?_ | refine below_ext ?_ ?_ _ _ | refine Below.setCell ?_ ?_ _) | (simp; done) | (simp; omega) | omega)))⟩
      | true =>
        have hk0 := takes_pos HTK.out.symm
        obtain ⟨kk, rfl⟩ : ∃ kk : Nat, ka = (kk : Int) := ⟨ka.toNat, by omega⟩
        by_cases hks : kk ≤ sn
        · obtain ⟨r, hr⟩ : ∃ r, sn = r + kk := ⟨sn - kk, by omega⟩
          have HRK := Lib.hid hr
          have E1 : (sn : Int) - (kk : Int) = (r : Int) := by omega
          have hr0 : ¬ (r : Int) < 0 := by omega
          cases fl with
          | false => 
            have HE := Lib.hid (show R = none by
              rw [← HME.out, show stepN l ⟨oa, kk, ta, na, ca, sa, da⟩ st = false by unfold stepN; rw [← HFL.out]; simp]; rfl)
            go_upto_region 7 with fail
            refine wp_region_held_drew (S := fun w' => w'.cell? ⟨wr.heap.size, 0, none⟩ = some (.int .i64 oa) ∧ w'.cell? ⟨wr.heap.size, 1, none⟩ = some (.int .i64 (kk : Int)) ∧ w'.cell? ⟨wr.heap.size, 2, none⟩ = some (.string ta) ∧ w'.cell? ⟨wr.heap.size, 3, none⟩ = some (.bool na) ∧ w'.cell? ⟨wr.heap.size, 4, none⟩ = some (.int .u64 ha) ∧ w'.cell? ⟨wr.heap.size, 5, none⟩ = some (.int .u64 la) ∧ w'.cell? ⟨wr.heap.size, 6, none⟩ = some (.int .i64 sa) ∧ w'.cell? ⟨wr.heap.size, 7, none⟩ = some (.int .i64 da)) (by kernel_rfl) ?c3xhSa (fun hHeld => ?c3xresta)
            case c3xhSa => ((try dsimp only); (simp [go_sem]))
            refine wpAnyH_take (i := 0) (oi := ({ dst := some 24, op := Op.fieldAddr 39 (Operand.tmp 7) 0, type := 0, pos := "form.go:29", after := #[], guard := none } : Oper)) (v := ?c3xv1) rfl (by kernel_rfl) (by kernel_rfl) (by kernel_rfl) (fun _ _ _ h => h) (Or.inl ⟨by rfl, ?c3xhy1⟩) (by assumption) ?c3xre1
            case c3xhy1 => (intro w hSw; (try dsimp only at hSw); go_simp; try with_reducible rfl)
            (try simp only [Act.put, List.setIfInBounds_toArray, List.set_cons_zero, List.set_cons_succ])
            refine wpAnyH_take (i := 1) (oi := ({ dst := some 25, op := Op.load 3 (Operand.tmp 24), type := 3, pos := "form.go:29", after := #[{ on := 0, ground := Ground.data }], guard := none } : Oper)) (v := ?c3xv2) rfl (by kernel_rfl) (by kernel_rfl) (by kernel_rfl) (fun _ _ _ h => h) (Or.inl ⟨by rfl, ?c3xhy2⟩) (by assumption) ?c3xre2
            case c3xhy2 => (intro w hSw; (try dsimp only at hSw); go_simp; try with_reducible rfl)
            (try simp only [Act.put, List.setIfInBounds_toArray, List.set_cons_zero, List.set_cons_succ])
            refine wpAnyH_take (i := 2) (oi := ({ dst := some 26, op := Op.fieldAddr 39 (Operand.tmp 7) 1, type := 0, pos := "form.go:29", after := #[], guard := none } : Oper)) (v := ?c3xv3) rfl (by kernel_rfl) (by kernel_rfl) (by kernel_rfl) (fun _ _ _ h => h) (Or.inl ⟨by rfl, ?c3xhy3⟩) (by assumption) ?c3xre3
            case c3xhy3 => (intro w hSw; (try dsimp only at hSw); go_simp; try with_reducible rfl)
            (try simp only [Act.put, List.setIfInBounds_toArray, List.set_cons_zero, List.set_cons_succ])
            refine wpAnyH_take (i := 3) (oi := ({ dst := some 27, op := Op.load 3 (Operand.tmp 26), type := 3, pos := "form.go:29", after := #[{ on := 2, ground := Ground.data }], guard := none } : Oper)) (v := ?c3xv4) rfl (by kernel_rfl) (by kernel_rfl) (by kernel_rfl) (fun _ _ _ h => h) (Or.inl ⟨by rfl, ?c3xhy4⟩) (by assumption) ?c3xre4
            case c3xhy4 => (intro w hSw; (try dsimp only at hSw); go_simp; try with_reducible rfl)
            (try simp only [Act.put, List.setIfInBounds_toArray, List.set_cons_zero, List.set_cons_succ])
            refine wpAnyH_ready (rs := [4]) (by kernel_rfl) (by simp) ?_
            refine AllReadyH.cons (o := ({ dst := some 28, op := Op.call { callee := Callee.value (Operand.func 46), args := #[Operand.tmp 25, Operand.tmp 27], argTypes := #[3, 3] }, type := 4, pos := "form.go:29", after := #[{ on := 1, ground := Ground.data }, { on := 3, ground := Ground.data }], guard := none } : Oper)) rfl (fun K hK => ?_) AllReadyH.nil
            go_simp
            (go_at_call 46; (with_reducible refine (HT.out _).mono ?_); rintro e w2 ⟨rfl, rfl⟩)
            refine hK.out _ _ ?c3xhS5 (fun hHeldN => ?c3xrst5)
            case c3xhS5 => ((try dsimp only); (simp [go_sem]))
            clear hHeld hK K
            have hHeld := hHeldN
            clear hHeldN
            refine wpAnyH_take (i := 5) (oi := ({ dst := some 29, op := Op.unOp UnOp.not 4 (Operand.tmp 28), type := 4, pos := "form.go:29", after := #[{ on := 4, ground := Ground.data }], guard := none } : Oper)) (v := ?c3xv6) rfl (by kernel_rfl) (by kernel_rfl) (by kernel_rfl) (fun _ _ _ h => h) (Or.inl ⟨by rfl, ?c3xhy6⟩) (by assumption) ?c3xre6
            case c3xhy6 => (intro w hSw; (try dsimp only at hSw); go_simp; try with_reducible rfl)
            (try simp only [Act.put, List.setIfInBounds_toArray, List.set_cons_zero, List.set_cons_succ])
            refine wpAnyH_take (i := 6) (oi := ({ dst := some 30, op := Op.move (Operand.tmp 29), type := 4, pos := "form.go:29", after := #[{ on := 5, ground := Ground.data }, { on := 4, ground := Ground.chain }], guard := none } : Oper)) (v := ?c3xv7) rfl (by kernel_rfl) (by kernel_rfl) (by kernel_rfl) (fun _ _ _ h => h) (Or.inl ⟨by rfl, ?c3xhy7⟩) (by assumption) ?c3xre7
            case c3xhy7 => (intro w hSw; (try dsimp only at hSw); go_simp; try with_reducible rfl)
            (try simp only [Act.put, List.setIfInBounds_toArray, List.set_cons_zero, List.set_cons_succ])
            refine wpAnyH_take (i := 7) (oi := ({ dst := some 31, op := Op.move (Operand.tmp 8), type := 3, pos := "form.go:29", after := #[{ on := 6, ground := Ground.guard }], guard := some (6, false) } : Oper)) (v := ?c3xv8) rfl (by kernel_rfl) (by kernel_rfl) (by kernel_rfl) (fun _ _ _ h => h) (Or.inl ⟨by rfl, ?c3xhy8⟩) (by assumption) ?c3xre8
            case c3xhy8 => (intro w hSw; (try dsimp only at hSw); go_simp; try with_reducible rfl)
            (try simp only [Act.put, List.setIfInBounds_toArray, List.set_cons_zero, List.set_cons_succ])
            refine wpAnyH_take (i := 8) (oi := ({ dst := some 32, op := Op.binOp BinOp.lss 3 (Operand.tmp 31) (Operand.const (Value.int IntKind.i64 0)) 3, type := 4, pos := "form.go:29", after := #[{ on := 7, ground := Ground.data }, { on := 6, ground := Ground.guard }], guard := some (6, false) } : Oper)) (v := ?c3xv9) rfl (by kernel_rfl) (by kernel_rfl) (by kernel_rfl) (fun _ _ _ h => h) (Or.inl ⟨by rfl, ?c3xhy9⟩) (by assumption) ?c3xre9
            case c3xhy9 => (intro w hSw; (try dsimp only at hSw); go_simp; try with_reducible rfl)
            (try simp only [Act.put, List.setIfInBounds_toArray, List.set_cons_zero, List.set_cons_succ])
            refine wpAnyH_take (i := 9) (oi := ({ dst := some 33, op := Op.pick (Operand.tmp 30) (Operand.const (Value.bool true)) (Operand.tmp 32), type := 4, pos := "form.go:29", after := #[{ on := 6, ground := Ground.data }, { on := 8, ground := Ground.data }], guard := none } : Oper)) (v := ?c3xv10) rfl (by kernel_rfl) (by kernel_rfl) (by kernel_rfl) (fun _ _ _ h => h) (Or.inl ⟨by rfl, ?c3xhy10⟩) (by assumption) ?c3xre10
            case c3xhy10 => (intro w hSw; (try dsimp only at hSw); go_simp; try with_reducible rfl)
            (try simp only [Act.put, List.setIfInBounds_toArray, List.set_cons_zero, List.set_cons_succ])
            refine wpAnyH_take (i := 10) (oi := ({ dst := some 34, op := Op.move (Operand.tmp 33), type := 4, pos := "form.go:29", after := #[{ on := 9, ground := Ground.data }, { on := 6, ground := Ground.chain }], guard := none } : Oper)) (v := ?c3xv11) rfl (by kernel_rfl) (by kernel_rfl) (by kernel_rfl) (fun _ _ _ h => h) (Or.inl ⟨by rfl, ?c3xhy11⟩) (by assumption) ?c3xre11
            case c3xhy11 => (intro w hSw; (try dsimp only at hSw); go_simp; try with_reducible rfl)
            (try simp only [Act.put, List.setIfInBounds_toArray, List.set_cons_zero, List.set_cons_succ])
            refine wpAnyH_take (i := 11) (oi := ({ dst := some 35, op := Op.load 39 (Operand.tmp 7), type := 39, pos := "form.go:29", after := #[{ on := 10, ground := Ground.guard }], guard := some (10, false) } : Oper)) (v := ?c3xv12) rfl (by kernel_rfl) (by kernel_rfl) (by kernel_rfl) (fun _ _ _ h => h) (Or.inl ⟨by rfl, ?c3xhy12⟩) (by assumption) ?c3xre12
            case c3xhy12 => (intro w hSw; (try dsimp only at hSw); go_simp; try with_reducible rfl)
            (try simp only [Act.put, List.setIfInBounds_toArray, List.set_cons_zero, List.set_cons_succ])
            refine wpAnyH_ready (rs := [12]) (by kernel_rfl) (by simp) ?_
            refine AllReadyH.cons (o := ({ dst := some 36, op := Op.call { callee := Callee.value (Operand.func 47), args := #[Operand.tmp 35], argTypes := #[39] }, type := 4, pos := "form.go:29", after := #[{ on := 11, ground := Ground.data }, { on := 10, ground := Ground.chain }, { on := 10, ground := Ground.guard }], guard := some (10, false) } : Oper)) rfl (fun K hK => ?_) AllReadyH.nil
            go_simp
            (go_at_call 47; (with_reducible refine (HF.out _ (by (repeat' (first | (with_reducible first | exact Below.refl _ _ | assumption | refine Below.alloc ?_ ?_ _ | refine below_drewN ?_ _ | refine below_drew ?_ | refine below_ext ?_ ?_ _ _ | refine Below.setCell ?_ ?_ _) | (simp; done) | (simp; omega) | omega)))).mono ?_); rintro e w2 ⟨rfl, hb1⟩; obtain ⟨osF, dF, rfl⟩ := ext_of_below hb1; clear hb1)
            refine hK.out _ _ ?c3xhS13 (fun hHeldN => ?c3xrst13)
            case c3xhS13 => ((try dsimp only); (simp [go_sem]))
            clear hHeld hK K
            have hHeld := hHeldN
            clear hHeldN
            refine wpAnyH_take (i := 13) (oi := ({ dst := some 37, op := Op.unOp UnOp.not 4 (Operand.tmp 36), type := 4, pos := "form.go:29", after := #[{ on := 12, ground := Ground.data }, { on := 10, ground := Ground.guard }], guard := some (10, false) } : Oper)) (v := ?c3xv14) rfl (by kernel_rfl) (by kernel_rfl) (by kernel_rfl) (fun _ _ _ h => h) (Or.inl ⟨by rfl, ?c3xhy14⟩) (by assumption) ?c3xre14
            case c3xhy14 => (intro w hSw; (try dsimp only at hSw); go_simp; try with_reducible rfl)
            (try simp only [Act.put, List.setIfInBounds_toArray, List.set_cons_zero, List.set_cons_succ])
            refine wpAnyH_take (i := 14) (oi := ({ dst := some 38, op := Op.pick (Operand.tmp 34) (Operand.const (Value.bool true)) (Operand.tmp 37), type := 4, pos := "form.go:29", after := #[{ on := 10, ground := Ground.data }, { on := 13, ground := Ground.data }], guard := none } : Oper)) (v := ?c3xv15) rfl (by kernel_rfl) (by kernel_rfl) (by kernel_rfl) (fun _ _ _ h => h) (Or.inl ⟨by rfl, ?c3xhy15⟩) (by assumption) ?c3xre15
            case c3xhy15 => (intro w hSw; (try dsimp only at hSw); go_simp; try with_reducible rfl)
            (try simp only [Act.put, List.setIfInBounds_toArray, List.set_cons_zero, List.set_cons_succ])
            refine wpAnyH_take (i := 15) (oi := ({ dst := some 39, op := Op.move (Operand.tmp 38), type := 4, pos := "form.go:29", after := #[{ on := 14, ground := Ground.data }, { on := 12, ground := Ground.chain }], guard := none } : Oper)) (v := ?c3xv16) rfl (by kernel_rfl) (by kernel_rfl) (by kernel_rfl) (fun _ _ _ h => h) (Or.inl ⟨by rfl, ?c3xhy16⟩) (by assumption) ?c3xre16
            case c3xhy16 => (intro w hSw; (try dsimp only at hSw); go_simp; try with_reducible rfl)
            (try simp only [Act.put, List.setIfInBounds_toArray, List.set_cons_zero, List.set_cons_succ])
            refine wpAnyH_take (i := 16) (oi := ({ dst := some 40, op := Op.move (Operand.tmp 0), type := 22, pos := "form.go:29", after := #[{ on := 15, ground := Ground.guard }], guard := some (15, false) } : Oper)) (v := undef) rfl (by kernel_rfl) (by kernel_rfl) (by kernel_rfl) (fun _ _ _ h => h) (Or.inr ⟨by rfl, rfl⟩) (by assumption) ?c3xre17
            (try simp only [Act.put, List.setIfInBounds_toArray, List.set_cons_zero, List.set_cons_succ])
            refine wpAnyH_take (i := 17) (oi := ({ dst := some 41, op := Op.fieldAddr 39 (Operand.tmp 7) 0, type := 0, pos := "form.go:29", after := #[{ on := 15, ground := Ground.guard }], guard := some (15, false) } : Oper)) (v := undef) rfl (by kernel_rfl) (by kernel_rfl) (by kernel_rfl) (fun _ _ _ h => h) (Or.inr ⟨by rfl, rfl⟩) (by assumption) ?c3xre18
            (try simp only [Act.put, List.setIfInBounds_toArray, List.set_cons_zero, List.set_cons_succ])
            refine wpAnyH_take (i := 18) (oi := ({ dst := some 42, op := Op.load 3 (Operand.tmp 41), type := 3, pos := "form.go:29", after := #[{ on := 17, ground := Ground.data }, { on := 15, ground := Ground.guard }], guard := some (15, false) } : Oper)) (v := undef) rfl (by kernel_rfl) (by kernel_rfl) (by kernel_rfl) (fun _ _ _ h => h) (Or.inr ⟨by rfl, rfl⟩) (by assumption) ?c3xre19
            (try simp only [Act.put, List.setIfInBounds_toArray, List.set_cons_zero, List.set_cons_succ])
            refine wpAnyH_take (i := 19) (oi := ({ dst := some 43, op := Op.move (Operand.tmp 4), type := 85, pos := "form.go:29", after := #[{ on := 15, ground := Ground.guard }], guard := some (15, false) } : Oper)) (v := undef) rfl (by kernel_rfl) (by kernel_rfl) (by kernel_rfl) (fun _ _ _ h => h) (Or.inr ⟨by rfl, rfl⟩) (by assumption) ?c3xre20
            (try simp only [Act.put, List.setIfInBounds_toArray, List.set_cons_zero, List.set_cons_succ])
            refine wpAnyH_take (i := 20) (oi := ({ dst := some 44, op := Op.move (Operand.tmp 8), type := 3, pos := "form.go:29", after := #[{ on := 15, ground := Ground.guard }], guard := some (15, false) } : Oper)) (v := undef) rfl (by kernel_rfl) (by kernel_rfl) (by kernel_rfl) (fun _ _ _ h => h) (Or.inr ⟨by rfl, rfl⟩) (by assumption) ?c3xre21
            (try simp only [Act.put, List.setIfInBounds_toArray, List.set_cons_zero, List.set_cons_succ])
            refine wpAnyH_take (i := 21) (oi := ({ dst := some 45, op := Op.slice 85 (Operand.tmp 43) (some (Operand.tmp 44)) none none, type := 85, pos := "form.go:29", after := #[{ on := 19, ground := Ground.data }, { on := 20, ground := Ground.data }, { on := 15, ground := Ground.guard }], guard := some (15, false) } : Oper)) (v := undef) rfl (by kernel_rfl) (by kernel_rfl) (by kernel_rfl) (fun _ _ _ h => h) (Or.inr ⟨by rfl, rfl⟩) (by assumption) ?c3xre22
            (try simp only [Act.put, List.setIfInBounds_toArray, List.set_cons_zero, List.set_cons_succ])
            refine wpAnyH_take (i := 22) (oi := ({ dst := some 46, op := Op.call { callee := Callee.value (Operand.func 48), args := #[Operand.tmp 40, Operand.tmp 42, Operand.tmp 45], argTypes := #[22, 3, 85] }, type := 4, pos := "form.go:29", after := #[{ on := 16, ground := Ground.data }, { on := 18, ground := Ground.data }, { on := 21, ground := Ground.data }, { on := 15, ground := Ground.chain }, { on := 15, ground := Ground.guard }], guard := some (15, false) } : Oper)) (v := undef) rfl (by kernel_rfl) (by kernel_rfl) (by kernel_rfl) (fun _ _ _ h => h) (Or.inr ⟨by rfl, rfl⟩) (by assumption) ?c3xre23
            (try simp only [Act.put, List.setIfInBounds_toArray, List.set_cons_zero, List.set_cons_succ])
            refine wpAnyH_take (i := 23) (oi := ({ dst := some 47, op := Op.unOp UnOp.not 4 (Operand.tmp 46), type := 4, pos := "form.go:29", after := #[{ on := 22, ground := Ground.data }, { on := 15, ground := Ground.guard }], guard := some (15, false) } : Oper)) (v := undef) rfl (by kernel_rfl) (by kernel_rfl) (by kernel_rfl) (fun _ _ _ h => h) (Or.inr ⟨by rfl, rfl⟩) (by assumption) ?c3xre24
            (try simp only [Act.put, List.setIfInBounds_toArray, List.set_cons_zero, List.set_cons_succ])
            refine wpAnyH_take (i := 24) (oi := ({ dst := some 48, op := Op.pick (Operand.tmp 39) (Operand.const (Value.bool true)) (Operand.tmp 47), type := 4, pos := "form.go:29", after := #[{ on := 15, ground := Ground.data }, { on := 23, ground := Ground.data }], guard := none } : Oper)) (v := ?c3xv25) rfl (by kernel_rfl) (by kernel_rfl) (by kernel_rfl) (fun _ _ _ h => h) (Or.inl ⟨by rfl, ?c3xhy25⟩) (by assumption) ?c3xre25
            case c3xhy25 => (intro w hSw; (try dsimp only at hSw); go_simp; try with_reducible rfl)
            (try simp only [Act.put, List.setIfInBounds_toArray, List.set_cons_zero, List.set_cons_succ])
            refine wpAnyH_done (by kernel_rfl) ?_ _
            clear hHeld
            go_wp2
            go_ret2
            rw [HE.out]
            exact ⟨rfl, HBR.out.trans (show Below w.heap.size wr _ by (repeat' (first | (with_reducible first | exact Below.refl _ _ | assumption | refine Below.alloc ?_ ?_ _ | refine below_drewN ?_ _ | refine below_drew ?_ | refine below_ext ?_ ?_ _ _ | refine Below.setCell ?_ ?_ _) | (simp; done) | (simp; omega) | omega)))⟩
          | true =>
            obtain ⟨su, hsu⟩ : ∃ su, su = suitedB l oa (st.drop r) := ⟨_, rfl⟩
            have HSU := Lib.hid hsu
            have hdl : (st.drop r).length = kk := by rw [List.length_drop, ← HSN.out]; omega
            have HS := Lib.hid (fun (P : Option Addr) (C : Nat) (hP : 0 < kk → ∃ gd, P = some ⟨gd, r * 2, none⟩ ∧ q = some ⟨gd, 0, none⟩) w' (hb : Below wr.heap.size wr w') => (show Calls Tryz.prog 48 #[.slice (some ⟨g, o, none⟩) len c, .int .i64 oa, .slice P kk C] w' fun e w'' => e = .returned (.bool su) ∧ Below w'.heap.size w' w'' by
              rw [hsu]
              refine suited_any l oa (st.drop r) n wr.heap.size w' _ _ (HV.out.keep ((HBR.out.mono hn).trans (hb.mono (by omega)))) ⟨P, C, by rw [hdl], fun h0 => ?_⟩ (Nat.le_trans hn (Nat.le_trans hsw hb.size)) hb.size (by omega) (fun p hp => by have := hpl.out p (List.mem_of_mem_drop hp); omega) HWF.out
              obtain ⟨gd, rfl, rfl⟩ := hP (by omega)
              refine ⟨gd, r * 2, rfl, (World.ownsRow.lt HOL.out gd rfl).2, fun j hj i2 u hu => ?_⟩
              have hl1 : r + j < st.length := by rw [hdl] at hj; rw [← HSN.out]; omega
              have hi2 : i2 < 2 := (List.getElem?_eq_some_iff.1 hu).1
              have hu2 : (itmE (st[r + j]))[i2]? = some u := by rw [List.getElem_drop] at hu; exact hu
              have c0 := OL.cell itmE_cells (OL.new HOL.out hb) (r + j) i2 hl1 hu2
              rwa [show (r + j) * itmK.size + i2 = r * 2 + j * 2 + i2 by show (r + j) * 2 + i2 = _; omega] at c0))
            clear hsu
            have hrr : st.length - ((kk : Nat) : Int).toNat = r := by rw [Int.toNat_natCast, ← HSN.out]; omega
            have hst : stepN l ⟨oa, kk, ta, na, ca, sa, da⟩ st = su := by
              unfold stepN
              simp only
              rw [hrr, ← HTK.out, ← HFL.out, ← HSU.out, decide_eq_true (show ((kk : Nat) : Int) ≤ (st.length : Int) by rw [← HSN.out]; omega)]
              simp
            cases su with
            | false =>
              have HE := Lib.hid (show R = none by rw [← HME.out, hst]; rfl)
              clear hst
              by_cases hk9 : kk = 0
              · subst hk9
                obtain rfl : r = sn := by omega
                have HT0 := Lib.hid (show ∀ w, Calls Tryz.prog 46 #[.int .i64 oa, .int .i64 0] w fun e w' => e = .returned (.bool true) ∧ w' = w from HT.out)
                have HF0 := Lib.hid (show ∀ w', Below wr.heap.size wr w' → Calls Tryz.prog 47 #[NodV oa 0 ta na ha la sa da] w' fun e w'_1 => e = .returned (.bool true) ∧ Below w'.heap.size w' w'_1 from HF.out)
                have y1 : wr.cell? ⟨g, o + i * 8 + 1, none⟩ = some (.int .i64 0) := x1
                have HS0 := Lib.hid (show ∀ P C w', Below wr.heap.size wr w' → Calls Tryz.prog 48 #[.slice (some ⟨g, o, none⟩) len c, .int .i64 oa, .slice P 0 C] w' fun e w'' => e = .returned (.bool false) ∧ Below w'.heap.size w' w'' from fun P C w' hb => HS.out P C (fun h => absurd h (by omega)) w' hb)
                clear x1 HT HF E1 hr HS hk0 hks hka
                by_cases h0 : r = 0
                · subst h0
                  go_upto_region 7 with fail
                  go_region_held3 (fun w' => w'.cell? ⟨wr.heap.size, 0, none⟩ = some (.int .i64 oa) ∧ w'.cell? ⟨wr.heap.size, 1, none⟩ = some (.int .i64 0) ∧ w'.cell? ⟨wr.heap.size, 2, none⟩ = some (.string ta) ∧ w'.cell? ⟨wr.heap.size, 3, none⟩ = some (.bool na) ∧ w'.cell? ⟨wr.heap.size, 4, none⟩ = some (.int .u64 ha) ∧ w'.cell? ⟨wr.heap.size, 5, none⟩ = some (.int .u64 la) ∧ w'.cell? ⟨wr.heap.size, 6, none⟩ = some (.int .i64 sa) ∧ w'.cell? ⟨wr.heap.size, 7, none⟩ = some (.int .i64 da)) (simp [go_sem]) (first
                    | (go_at_call 46; ((with_reducible refine (HT0.out _).mono ?_); rintro e w' ⟨rfl, rfl⟩))
                    | (go_at_call 47; ((with_reducible refine (HF0.out _ (by (repeat' (first | (with_reducible first | exact Below.refl _ _ | assumption | refine Below.alloc ?_ ?_ _ | refine below_drewN ?_ _ | refine below_drew ?_ | refine below_ext ?_ ?_ _ _ | refine Below.setCell ?_ ?_ _) | (simp; done) | (simp; omega) | omega)))).mono ?_); rintro e w1 ⟨rfl, hb1⟩; obtain ⟨osF, dF, rfl⟩ := ext_of_below hb1; clear hb1))
                    | (go_at_call 48; ((with_reducible refine (HS0.out _ _ _ (by (repeat' (first | (with_reducible first | exact Below.refl _ _ | assumption | refine Below.alloc ?_ ?_ _ | refine below_drewN ?_ _ | refine below_drew ?_ | refine below_ext ?_ ?_ _ _ | refine Below.setCell ?_ ?_ _) | (simp; done) | (simp; omega) | omega)))).mono ?_); rintro e w1 ⟨rfl, hb1⟩; obtain ⟨osS, dS, rfl⟩ := ext_of_below hb1; clear hb1)))
                  go_wp2
                  go_ret2
                  rw [HE.out]
                  exact ⟨rfl, HBR.out.trans (show Below w.heap.size wr _ by (repeat' (first | (with_reducible first | exact Below.refl _ _ | assumption | refine Below.alloc ?_ ?_ _ | refine below_drewN ?_ _ | refine below_drew ?_ | refine below_ext ?_ ?_ _ _ | refine Below.setCell ?_ ?_ _) | (simp; done) | (simp; omega) | omega)))⟩
                · obtain ⟨gd, rfl, hgd1, hgd2⟩ := hq (by omega)
                  have hcc : cp = r ∨ (r < cp ∧ ¬ cp = r) := by omega
                  rcases hcc with rfl | ⟨hcc, hcc2⟩
                  all_goals
                    go_upto_region 7 with fail
                    go_region_held3 (fun w' => w'.cell? ⟨wr.heap.size, 0, none⟩ = some (.int .i64 oa) ∧ w'.cell? ⟨wr.heap.size, 1, none⟩ = some (.int .i64 0) ∧ w'.cell? ⟨wr.heap.size, 2, none⟩ = some (.string ta) ∧ w'.cell? ⟨wr.heap.size, 3, none⟩ = some (.bool na) ∧ w'.cell? ⟨wr.heap.size, 4, none⟩ = some (.int .u64 ha) ∧ w'.cell? ⟨wr.heap.size, 5, none⟩ = some (.int .u64 la) ∧ w'.cell? ⟨wr.heap.size, 6, none⟩ = some (.int .i64 sa) ∧ w'.cell? ⟨wr.heap.size, 7, none⟩ = some (.int .i64 da)) (simp [go_sem]) (first
                      | (go_at_call 46; ((with_reducible refine (HT0.out _).mono ?_); rintro e w' ⟨rfl, rfl⟩))
                      | (go_at_call 47; ((with_reducible refine (HF0.out _ (by (repeat' (first | (with_reducible first | exact Below.refl _ _ | assumption | refine Below.alloc ?_ ?_ _ | refine below_drewN ?_ _ | refine below_drew ?_ | refine below_ext ?_ ?_ _ _ | refine Below.setCell ?_ ?_ _) | (simp; done) | (simp; omega) | omega)))).mono ?_); rintro e w1 ⟨rfl, hb1⟩; obtain ⟨osF, dF, rfl⟩ := ext_of_below hb1; clear hb1))
                      | (go_at_call 48; ((with_reducible refine (HS0.out _ _ _ (by (repeat' (first | (with_reducible first | exact Below.refl _ _ | assumption | refine Below.alloc ?_ ?_ _ | refine below_drewN ?_ _ | refine below_drew ?_ | refine below_ext ?_ ?_ _ _ | refine Below.setCell ?_ ?_ _) | (simp; done) | (simp; omega) | omega)))).mono ?_); rintro e w1 ⟨rfl, hb1⟩; obtain ⟨osS, dS, rfl⟩ := ext_of_below hb1; clear hb1)))
                    go_wp2
                    go_ret2
                    rw [HE.out]
                    exact ⟨rfl, HBR.out.trans (show Below w.heap.size wr _ by (repeat' (first | (with_reducible first | exact Below.refl _ _ | assumption | refine Below.alloc ?_ ?_ _ | refine below_drewN ?_ _ | refine below_drew ?_ | refine below_ext ?_ ?_ _ _ | refine Below.setCell ?_ ?_ _) | (simp; done) | (simp; omega) | omega)))⟩
              · obtain ⟨gd, rfl, hgd1, hgd2⟩ := hq (by omega)
                have HS2 := Lib.hid (fun C w' hb => HS.out (some ⟨gd, r * 2, none⟩) C (fun _ => ⟨gd, rfl, rfl⟩) w' hb)
                have hrc : r < cp := by omega
                have hrc2 : ¬ cp = r := by omega
                have hrs : (r : Int) ≤ (sn : Int) := by omega
                have hr1 : (0 : Int) ≤ (r : Int) := by omega
                have hsc : (sn : Int) ≤ (cp : Int) := by omega
                have hsc2 : (r : Int) + (kk : Int) ≤ (cp : Int) := by omega
                have hsc3 : (r : Int) ≤ (r : Int) + (kk : Int) := by omega
                go_upto_region 7 with fail
                go_region_held3 (fun w' => w'.cell? ⟨wr.heap.size, 0, none⟩ = some (.int .i64 oa) ∧ w'.cell? ⟨wr.heap.size, 1, none⟩ = some (.int .i64 (kk : Int)) ∧ w'.cell? ⟨wr.heap.size, 2, none⟩ = some (.string ta) ∧ w'.cell? ⟨wr.heap.size, 3, none⟩ = some (.bool na) ∧ w'.cell? ⟨wr.heap.size, 4, none⟩ = some (.int .u64 ha) ∧ w'.cell? ⟨wr.heap.size, 5, none⟩ = some (.int .u64 la) ∧ w'.cell? ⟨wr.heap.size, 6, none⟩ = some (.int .i64 sa) ∧ w'.cell? ⟨wr.heap.size, 7, none⟩ = some (.int .i64 da)) (simp [go_sem]) (first
                  | (go_at_call 46; ((with_reducible refine (HT.out _).mono ?_); rintro e w' ⟨rfl, rfl⟩))
                  | (go_at_call 47; ((with_reducible refine (HF.out _ (by (repeat' (first | (with_reducible first | exact Below.refl _ _ | assumption | refine Below.alloc ?_ ?_ _ | refine below_drewN ?_ _ | refine below_drew ?_ | refine below_ext ?_ ?_ _ _ | refine Below.setCell ?_ ?_ _) | (simp; done) | (simp; omega) | omega)))).mono ?_); rintro e w1 ⟨rfl, hb1⟩; obtain ⟨osF, dF, rfl⟩ := ext_of_below hb1; clear hb1))
                  | (go_at_call 48; ((with_reducible refine (HS2.out _ _ (by (repeat' (first | (with_reducible first | exact Below.refl _ _ | assumption | refine Below.alloc ?_ ?_ _ | refine below_drewN ?_ _ | refine below_drew ?_ | refine below_ext ?_ ?_ _ _ | refine Below.setCell ?_ ?_ _) | (simp; done) | (simp; omega) | omega)))).mono ?_); rintro e w1 ⟨rfl, hb1⟩; obtain ⟨osS, dS, rfl⟩ := ext_of_below hb1; clear hb1)))
                go_wp2
                go_ret2
                rw [HE.out]
                exact ⟨rfl, HBR.out.trans (show Below w.heap.size wr _ by (repeat' (first | (with_reducible first | exact Below.refl _ _ | assumption | refine Below.alloc ?_ ?_ _ | refine below_drewN ?_ _ | refine below_drew ?_ | refine below_ext ?_ ?_ _ _ | refine Below.setCell ?_ ?_ _) | (simp; done) | (simp; omega) | omega)))⟩
            | true =>
              obtain ⟨dp, hdp⟩ : ∃ dp, dp = depA 1 (st.drop r) := ⟨_, rfl⟩
              have hdpi : dp ≤ i + 1 := by
                rw [hdp]
                exact depA_le _ _ _ (by omega) fun p hp => by have := (hpl.out p (List.mem_of_mem_drop hp)).2; omega
              obtain ⟨st1, hst1⟩ : ∃ st1, st1 = st.take r := ⟨_, rfl⟩
              have HL1 := Lib.hid (show st1.length = r by rw [hst1, List.length_take, ← HSN.out]; omega)
              have HNX := Lib.hid (show ∀ d', d' = max d dp → measM l (i + 1) (l.drop (i + 1)) (st1 ++ [(i, dp)]) d' = R from fun d' h => by
                rw [h, hst1, hdp, ← HME.out, hst, if_pos rfl]
                unfold nextN
                simp only
                rw [hrr])
              have HPN := Lib.hid (show ∀ p ∈ st1 ++ [(i, dp)], p.1 < i + 1 ∧ p.2 ≤ i + 1 from fun p hp => by
                rw [hst1] at hp
                rcases List.mem_append.1 hp with hp | hp
                · have := hpl.out p (List.mem_of_mem_take hp); omega
                · simp at hp; subst hp; exact ⟨by simp, hdpi⟩)
              have HOL3 := Lib.hid (show ∀ w', Below wr.heap.size wr w' → OL itmK itmE w.heap.size w' (.slice q r cp) st1 from fun w' hb => hst1.symm ▸ OL.take (m := r) itmE_cells (OL.new HOL.out hb) (by rw [← HSN.out]; omega))
              have HDP := Lib.hid hdp
              clear hst hdp hst1
              by_cases hk9 : kk = 0
              · subst hk9
                obtain rfl : r = sn := by omega
                have HT0 := Lib.hid (show ∀ w, Calls Tryz.prog 46 #[.int .i64 oa, .int .i64 0] w fun e w' => e = .returned (.bool true) ∧ w' = w from HT.out)
                have HF0 := Lib.hid (show ∀ w', Below wr.heap.size wr w' → Calls Tryz.prog 47 #[NodV oa 0 ta na ha la sa da] w' fun e w'_1 => e = .returned (.bool true) ∧ Below w'.heap.size w' w'_1 from HF.out)
                have y1 : wr.cell? ⟨g, o + i * 8 + 1, none⟩ = some (.int .i64 0) := x1
                have HS0 := Lib.hid (show ∀ P C w', Below wr.heap.size wr w' → Calls Tryz.prog 48 #[.slice (some ⟨g, o, none⟩) len c, .int .i64 oa, .slice P 0 C] w' fun e w'' => e = .returned (.bool true) ∧ Below w'.heap.size w' w'' from fun P C w' hb => HS.out P C (fun h => absurd h (by omega)) w' hb)
                obtain rfl : dp = 1 := by rw [HDP.out, List.drop_eq_nil_of_le (by rw [← HSN.out]; exact Nat.le_refl _)]; rfl
                clear x1 HT HF E1 hr HS hk0 hks hka
                by_cases h0 : r = 0
                · subst h0
                  go_upto_region 7 with fail
                  go_region_held3 (fun w' => w'.cell? ⟨wr.heap.size, 0, none⟩ = some (.int .i64 oa) ∧ w'.cell? ⟨wr.heap.size, 1, none⟩ = some (.int .i64 0) ∧ w'.cell? ⟨wr.heap.size, 2, none⟩ = some (.string ta) ∧ w'.cell? ⟨wr.heap.size, 3, none⟩ = some (.bool na) ∧ w'.cell? ⟨wr.heap.size, 4, none⟩ = some (.int .u64 ha) ∧ w'.cell? ⟨wr.heap.size, 5, none⟩ = some (.int .u64 la) ∧ w'.cell? ⟨wr.heap.size, 6, none⟩ = some (.int .i64 sa) ∧ w'.cell? ⟨wr.heap.size, 7, none⟩ = some (.int .i64 da)) (simp [go_sem]) (first
                    | (go_at_call 46; ((with_reducible refine (HT0.out _).mono ?_); rintro e w' ⟨rfl, rfl⟩))
                    | (go_at_call 47; ((with_reducible refine (HF0.out _ (by (repeat' (first | (with_reducible first | exact Below.refl _ _ | assumption | refine Below.alloc ?_ ?_ _ | refine below_drewN ?_ _ | refine below_drew ?_ | refine below_ext ?_ ?_ _ _ | refine Below.setCell ?_ ?_ _) | (simp; done) | (simp; omega) | omega)))).mono ?_); rintro e w1 ⟨rfl, hb1⟩; obtain ⟨osF, dF, rfl⟩ := ext_of_below hb1; clear hb1))
                    | (go_at_call 48; ((with_reducible refine (HS0.out _ _ _ (by (repeat' (first | (with_reducible first | exact Below.refl _ _ | assumption | refine Below.alloc ?_ ?_ _ | refine below_drewN ?_ _ | refine below_drew ?_ | refine below_ext ?_ ?_ _ _ | refine Below.setCell ?_ ?_ _) | (simp; done) | (simp; omega) | omega)))).mono ?_); rintro e w1 ⟨rfl, hb1⟩; obtain ⟨osS, dS, rfl⟩ := ext_of_below hb1; clear hb1)))
                  go_wp2
                  refine wp_loop_rounds 1 ?_
                  rw [rounds_succ]
                  go_wp2_with (first
                    | (at_builtin; refine wpList_append_ol itmK_ok itmE_cells rfl _ _ rfl rfl _ (i, 1) rfl (HOL3.out _ (by (repeat' (first | (with_reducible first | exact Below.refl _ _ | assumption | refine Below.alloc ?_ ?_ _ | refine below_drewN ?_ _ | refine below_drew ?_ | refine below_ext ?_ ?_ _ _ | refine Below.setCell ?_ ?_ _) | (simp; done) | (simp; omega) | omega)))) (by simp [Act.eval]) (by have := HL1.out; omega) (by (repeat' (first | (with_reducible first | exact Below.refl _ _ | assumption | refine Below.alloc ?_ ?_ _ | refine below_drewN ?_ _ | refine below_drew ?_ | refine below_ext ?_ ?_ _ _ | refine Below.setCell ?_ ?_ _) | (simp; done) | (simp; omega) | omega))) ?_; intro g2 cap2 w2 hob3 hoth hat hg2 hsz2; have HO2 := Lib.hid hob3; have HB2 := Lib.hid ((HBR.out.trans (show Below w.heap.size wr _ by (repeat' (first | (with_reducible first | exact Below.refl _ _ | assumption | refine Below.alloc ?_ ?_ _ | refine below_drewN ?_ _ | refine below_drew ?_ | refine below_ext ?_ ?_ _ _ | refine Below.setCell ?_ ?_ _) | (simp; done) | (simp; omega) | omega)))).trans (hoth.below (by first | omega | (simp; omega)) (fun k hk => HOWN.out _ k hk))); clear hob3 hoth hat hg2 hsz2))
                  all_goals
                    go_roundw
                    case rel =>
                      exact ⟨i + 1, max d 1, _, by go_num, by omega, max_one d, by omega, by rw [List.length_append, List.length_singleton]; have := HL1.out; omega, HO2, HB2, Lib.hid (HNX.out _ rfl), HPN⟩
                    case measure => simp [intOf]; omega
                · obtain ⟨gd, rfl, hgd1, hgd2⟩ := hq (by omega)
                  have hcc : cp = r ∨ (r < cp ∧ ¬ cp = r) := by omega
                  rcases hcc with rfl | ⟨hcc, hcc2⟩
                  all_goals
                    go_upto_region 7 with fail
                    go_region_held3 (fun w' => w'.cell? ⟨wr.heap.size, 0, none⟩ = some (.int .i64 oa) ∧ w'.cell? ⟨wr.heap.size, 1, none⟩ = some (.int .i64 0) ∧ w'.cell? ⟨wr.heap.size, 2, none⟩ = some (.string ta) ∧ w'.cell? ⟨wr.heap.size, 3, none⟩ = some (.bool na) ∧ w'.cell? ⟨wr.heap.size, 4, none⟩ = some (.int .u64 ha) ∧ w'.cell? ⟨wr.heap.size, 5, none⟩ = some (.int .u64 la) ∧ w'.cell? ⟨wr.heap.size, 6, none⟩ = some (.int .i64 sa) ∧ w'.cell? ⟨wr.heap.size, 7, none⟩ = some (.int .i64 da)) (simp [go_sem]) (first
                      | (go_at_call 46; ((with_reducible refine (HT0.out _).mono ?_); rintro e w' ⟨rfl, rfl⟩))
                      | (go_at_call 47; ((with_reducible refine (HF0.out _ (by (repeat' (first | (with_reducible first | exact Below.refl _ _ | assumption | refine Below.alloc ?_ ?_ _ | refine below_drewN ?_ _ | refine below_drew ?_ | refine below_ext ?_ ?_ _ _ | refine Below.setCell ?_ ?_ _) | (simp; done) | (simp; omega) | omega)))).mono ?_); rintro e w1 ⟨rfl, hb1⟩; obtain ⟨osF, dF, rfl⟩ := ext_of_below hb1; clear hb1))
                      | (go_at_call 48; ((with_reducible refine (HS0.out _ _ _ (by (repeat' (first | (with_reducible first | exact Below.refl _ _ | assumption | refine Below.alloc ?_ ?_ _ | refine below_drewN ?_ _ | refine below_drew ?_ | refine below_ext ?_ ?_ _ _ | refine Below.setCell ?_ ?_ _) | (simp; done) | (simp; omega) | omega)))).mono ?_); rintro e w1 ⟨rfl, hb1⟩; obtain ⟨osS, dS, rfl⟩ := ext_of_below hb1; clear hb1)))
                    go_wp2
                    refine wp_loop_rounds 1 ?_
                    rw [rounds_succ]
                    go_wp2_with (first
                      | (at_builtin; refine wpList_append_ol itmK_ok itmE_cells rfl _ _ rfl rfl _ (i, 1) rfl (HOL3.out _ (by (repeat' (first | (with_reducible first | exact Below.refl _ _ | assumption | refine Below.alloc ?_ ?_ _ | refine below_drewN ?_ _ | refine below_drew ?_ | refine below_ext ?_ ?_ _ _ | refine Below.setCell ?_ ?_ _) | (simp; done) | (simp; omega) | omega)))) (by simp [Act.eval]) (by have := HL1.out; omega) (by (repeat' (first | (with_reducible first | exact Below.refl _ _ | assumption | refine Below.alloc ?_ ?_ _ | refine below_drewN ?_ _ | refine below_drew ?_ | refine below_ext ?_ ?_ _ _ | refine Below.setCell ?_ ?_ _) | (simp; done) | (simp; omega) | omega))) ?_; intro g2 cap2 w2 hob3 hoth hat hg2 hsz2; have HO2 := Lib.hid hob3; have HB2 := Lib.hid ((HBR.out.trans (show Below w.heap.size wr _ by (repeat' (first | (with_reducible first | exact Below.refl _ _ | assumption | refine Below.alloc ?_ ?_ _ | refine below_drewN ?_ _ | refine below_drew ?_ | refine below_ext ?_ ?_ _ _ | refine Below.setCell ?_ ?_ _) | (simp; done) | (simp; omega) | omega)))).trans (hoth.below (by first | omega | (simp; omega)) (fun k hk => HOWN.out _ k hk))); clear hob3 hoth hat hg2 hsz2))
                    all_goals
                      go_roundw
                      case rel =>
                        exact ⟨i + 1, max d 1, _, by go_num, by omega, max_one d, by omega, by rw [List.length_append, List.length_singleton]; have := HL1.out; omega, HO2, HB2, Lib.hid (HNX.out _ rfl), HPN⟩
                      case measure => simp [intOf]; omega
              · obtain ⟨gd, rfl, hgd1, hgd2⟩ := hq (by omega)
                have HS2 := Lib.hid (fun C w' hb => HS.out (some ⟨gd, r * 2, none⟩) C (fun _ => ⟨gd, rfl, rfl⟩) w' hb)
                have hrc : r < cp := by omega
                have hrc2 : ¬ cp = r := by omega
                have hrs : (r : Int) ≤ (sn : Int) := by omega
                have hr1 : (0 : Int) ≤ (r : Int) := by omega
                have hsc : (sn : Int) ≤ (cp : Int) := by omega
                have hsc2 : (r : Int) + (kk : Int) ≤ (cp : Int) := by omega
                have hsc3 : (r : Int) ≤ (r : Int) + (kk : Int) := by omega
                have HIT := Lib.hid (show ∀ w', Below wr.heap.size wr w' → ∀ j, j < kk → ∃ a b, st.drop r = (st.drop r) ∧ (st.drop r).drop j = (a, b) :: (st.drop r).drop (j + 1) ∧ b ≤ i ∧ w'.cell? ⟨gd, r * 2 + j * 2, none⟩ = some (.int .i64 (a : Int)) ∧ w'.cell? ⟨gd, r * 2 + j * 2 + 1, none⟩ = some (.int .i64 (b : Int)) from fun w' hb j hj => by
                  have hl1 : r + j < st.length := by rw [← HSN.out]; omega
                  have hl2 : j < (st.drop r).length := by omega
                  obtain ⟨a, b, hab⟩ : ∃ a b, st[r + j] = (a, b) := ⟨_, _, rfl⟩
                  have hab2 : (st.drop r)[j] = (a, b) := by rw [List.getElem_drop, hab]
                  have c0 := OL.cell itmE_cells (OL.new HOL.out hb) (r + j) 0 hl1 (by rw [hab]; rfl)
                  have c1 := OL.cell itmE_cells (OL.new HOL.out hb) (r + j) 1 hl1 (by rw [hab]; rfl)
                  rw [show (r + j) * itmK.size + 0 = r * 2 + j * 2 by show (r + j) * 2 + 0 = _; omega] at c0
                  rw [show (r + j) * itmK.size + 1 = r * 2 + j * 2 + 1 by show (r + j) * 2 + 1 = _; omega] at c1
                  refine ⟨a, b, rfl, by rw [List.drop_eq_getElem_cons hl2, hab2], ?_, c0, c1⟩
                  have := (hpl.out _ (List.getElem_mem hl1)).2
                  rw [hab] at this
                  exact this)
                have HDL := Lib.hid hdl
                clear HS hdl
                go_upto_region 7 with fail
                go_region_held3 (fun w' => w'.cell? ⟨wr.heap.size, 0, none⟩ = some (.int .i64 oa) ∧ w'.cell? ⟨wr.heap.size, 1, none⟩ = some (.int .i64 (kk : Int)) ∧ w'.cell? ⟨wr.heap.size, 2, none⟩ = some (.string ta) ∧ w'.cell? ⟨wr.heap.size, 3, none⟩ = some (.bool na) ∧ w'.cell? ⟨wr.heap.size, 4, none⟩ = some (.int .u64 ha) ∧ w'.cell? ⟨wr.heap.size, 5, none⟩ = some (.int .u64 la) ∧ w'.cell? ⟨wr.heap.size, 6, none⟩ = some (.int .i64 sa) ∧ w'.cell? ⟨wr.heap.size, 7, none⟩ = some (.int .i64 da)) (simp [go_sem]) (first
                  | (go_at_call 46; ((with_reducible refine (HT.out _).mono ?_); rintro e w' ⟨rfl, rfl⟩))
                  | (go_at_call 47; ((with_reducible refine (HF.out _ (by (repeat' (first | (with_reducible first | exact Below.refl _ _ | assumption | refine Below.alloc ?_ ?_ _ | refine below_drewN ?_ _ | refine below_drew ?_ | refine below_ext ?_ ?_ _ _ | refine Below.setCell ?_ ?_ _) | (simp; done) | (simp; omega) | omega)))).mono ?_); rintro e w1 ⟨rfl, hb1⟩; obtain ⟨osF, dF, rfl⟩ := ext_of_below hb1; clear hb1))
                  | (go_at_call 48; ((with_reducible refine (HS2.out _ _ (by (repeat' (first | (with_reducible first | exact Below.refl _ _ | assumption | refine Below.alloc ?_ ?_ _ | refine below_drewN ?_ _ | refine below_drew ?_ | refine below_ext ?_ ?_ _ _ | refine Below.setCell ?_ ?_ _) | (simp; done) | (simp; omega) | omega)))).mono ?_); rintro e w1 ⟨rfl, hb1⟩; obtain ⟨osS, dS, rfl⟩ := ext_of_below hb1; clear hb1)))
                go_wp2
                go_loopw [9, 53] (fun dv z wq => ∃ j e : Nat, z = .int .i64 j ∧ j ≤ kk ∧ dv = .int .i64 e ∧ e ≤ i + 1 ∧ Hid (depA e ((st.drop r).drop j) = dp) ∧ Hid (Below wr.heap.size wr wq)) (fun _ z _ => kk - (intOf z).toNat)
                case atStart => exact ⟨0, 1, rfl, Nat.zero_le _, rfl, by omega, Lib.hid HDP.out.symm, Lib.hid (by (repeat' (first | (with_reducible first | exact Below.refl _ _ | assumption | refine Below.alloc ?_ ?_ _ | refine below_drewN ?_ _ | refine below_drew ?_ | refine below_ext ?_ ?_ _ _ | refine Below.setCell ?_ ?_ _) | (simp; done) | (simp; omega) | omega)))⟩
                case round =>
                  obtain ⟨j, e, rfl, hj, rfl, hei, hde, hbq⟩ := hrel
                  have hswq := hbq.out.size
                  by_cases hjk : j < kk
                  · have hji : (j : Int) < (kk : Int) := by omega
                    obtain ⟨a, b, -, hdr, hbi, i0, i1⟩ := HIT.out _ hbq.out j hjk
                    have hgq := Nat.lt_of_lt_of_le hgd2 hswq
                    have HDE := Lib.hid (show ∀ e', e' = max e (b + 1) → depA e' ((st.drop r).drop (j + 1)) = dp from fun e' he => by rw [he, ← hde.out, hdr]; rfl)
                    have HBQ := Lib.hid hbq.out
                    clear hdr hde hbq
                    go_wp2
                    all_goals
                      go_roundw
                      case rel =>
                        exact ⟨j + 1, max e (b + 1), by go_num, by omega, max_suc e b, by omega, Lib.hid (HDE.out _ rfl), Lib.hid (HBQ.out.trans (by (repeat' (first | (with_reducible first | exact Below.refl _ _ | assumption | refine Below.alloc ?_ ?_ _ | refine below_drewN ?_ _ | refine below_drew ?_ | refine below_ext ?_ ?_ _ _ | refine Below.setCell ?_ ?_ _) | (simp; done) | (simp; omega) | omega))))⟩
                      case measure => simp [intOf]; omega
                  · obtain rfl : j = kk := by omega
                    have hji : ¬ (j : Int) < j := by omega
                    obtain rfl : e = dp := by rw [← hde.out, List.drop_eq_nil_of_le (by rw [HDL.out]; exact Nat.le_refl _)]; rfl
                    have HBQ := Lib.hid hbq.out
                    clear hde hbq
                    go_wp2_with (first
                      | (at_builtin; refine wpList_append_ol itmK_ok itmE_cells rfl _ _ rfl rfl _ (i, e) rfl (HOL3.out _ (HBQ.out.trans (by (repeat' (first | (with_reducible first | exact Below.refl _ _ | assumption | refine Below.alloc ?_ ?_ _ | refine below_drewN ?_ _ | refine below_drew ?_ | refine below_ext ?_ ?_ _ _ | refine Below.setCell ?_ ?_ _) | (simp; done) | (simp; omega) | omega))))) (by simp [Act.eval]) (by have := HL1.out; omega) (by (repeat' (first | (with_reducible first | exact Below.refl _ _ | assumption | refine Below.alloc ?_ ?_ _ | refine below_drewN ?_ _ | refine below_drew ?_ | refine below_ext ?_ ?_ _ _ | refine Below.setCell ?_ ?_ _) | (simp; done) | (simp; omega) | omega))) ?_; intro g2 cap2 w2 hob3 hoth hat hg2 hsz2; have HO2 := Lib.hid hob3; have HB2 := Lib.hid ((HBR.out.trans ((HBQ.out.mono hsw).trans (show Below w.heap.size _ _ by (repeat' (first | (with_reducible first | exact Below.refl _ _ | assumption | refine Below.alloc ?_ ?_ _ | refine below_drewN ?_ _ | refine below_drew ?_ | refine below_ext ?_ ?_ _ _ | refine Below.setCell ?_ ?_ _) | (simp; done) | (simp; omega) | omega))))).trans (hoth.below (by first | omega | (simp; omega)) (fun k hk => HOWN.out _ k hk))); clear hob3 hoth hat hg2 hsz2))
                    all_goals
                      go_roundw
                      case rel =>
                        exact ⟨i + 1, max d e, _, by go_num, by omega, max_two d e, by omega, by rw [List.length_append, List.length_singleton]; have := HL1.out; omega, HO2, HB2, Lib.hid (HNX.out _ rfl), HPN⟩
                      case measure => simp [intOf]; omega
        · have hks2 : (sn : Int) - (kk : Int) < 0 := by omega
          have HE := Lib.hid (show R = none by
            rw [← HME.out, show stepN l ⟨oa, kk, ta, na, ca, sa, da⟩ st = false by
              unfold stepN
              simp only
              rw [show decide ((kk : Int) ≤ (st.length : Int)) = false from decide_eq_false (by rw [← HSN.out]; omega)]; simp]
            rfl)
          go_upto_region 7 with fail
          refine wp_region_held_drew (S := fun w' => w'.cell? ⟨wr.heap.size, 0, none⟩ = some (.int .i64 oa) ∧ w'.cell? ⟨wr.heap.size, 1, none⟩ = some (.int .i64 (kk : Int)) ∧ w'.cell? ⟨wr.heap.size, 2, none⟩ = some (.string ta) ∧ w'.cell? ⟨wr.heap.size, 3, none⟩ = some (.bool na) ∧ w'.cell? ⟨wr.heap.size, 4, none⟩ = some (.int .u64 ha) ∧ w'.cell? ⟨wr.heap.size, 5, none⟩ = some (.int .u64 la) ∧ w'.cell? ⟨wr.heap.size, 6, none⟩ = some (.int .i64 sa) ∧ w'.cell? ⟨wr.heap.size, 7, none⟩ = some (.int .i64 da)) (by kernel_rfl) ?c2xhSa (fun hHeld => ?c2xresta)
          case c2xhSa => ((try dsimp only); (simp [go_sem]))
          refine wpAnyH_take (i := 0) (oi := ({ dst := some 24, op := Op.fieldAddr 39 (Operand.tmp 7) 0, type := 0, pos := "form.go:29", after := #[], guard := none } : Oper)) (v := ?c2xv1) rfl (by kernel_rfl) (by kernel_rfl) (by kernel_rfl) (fun _ _ _ h => h) (Or.inl ⟨by rfl, ?c2xhy1⟩) (by assumption) ?c2xre1
          case c2xhy1 => (intro w hSw; (try dsimp only at hSw); go_simp; try with_reducible rfl)
          (try simp only [Act.put, List.setIfInBounds_toArray, List.set_cons_zero, List.set_cons_succ])
          refine wpAnyH_take (i := 1) (oi := ({ dst := some 25, op := Op.load 3 (Operand.tmp 24), type := 3, pos := "form.go:29", after := #[{ on := 0, ground := Ground.data }], guard := none } : Oper)) (v := ?c2xv2) rfl (by kernel_rfl) (by kernel_rfl) (by kernel_rfl) (fun _ _ _ h => h) (Or.inl ⟨by rfl, ?c2xhy2⟩) (by assumption) ?c2xre2
          case c2xhy2 => (intro w hSw; (try dsimp only at hSw); go_simp; try with_reducible rfl)
          (try simp only [Act.put, List.setIfInBounds_toArray, List.set_cons_zero, List.set_cons_succ])
          refine wpAnyH_take (i := 2) (oi := ({ dst := some 26, op := Op.fieldAddr 39 (Operand.tmp 7) 1, type := 0, pos := "form.go:29", after := #[], guard := none } : Oper)) (v := ?c2xv3) rfl (by kernel_rfl) (by kernel_rfl) (by kernel_rfl) (fun _ _ _ h => h) (Or.inl ⟨by rfl, ?c2xhy3⟩) (by assumption) ?c2xre3
          case c2xhy3 => (intro w hSw; (try dsimp only at hSw); go_simp; try with_reducible rfl)
          (try simp only [Act.put, List.setIfInBounds_toArray, List.set_cons_zero, List.set_cons_succ])
          refine wpAnyH_take (i := 3) (oi := ({ dst := some 27, op := Op.load 3 (Operand.tmp 26), type := 3, pos := "form.go:29", after := #[{ on := 2, ground := Ground.data }], guard := none } : Oper)) (v := ?c2xv4) rfl (by kernel_rfl) (by kernel_rfl) (by kernel_rfl) (fun _ _ _ h => h) (Or.inl ⟨by rfl, ?c2xhy4⟩) (by assumption) ?c2xre4
          case c2xhy4 => (intro w hSw; (try dsimp only at hSw); go_simp; try with_reducible rfl)
          (try simp only [Act.put, List.setIfInBounds_toArray, List.set_cons_zero, List.set_cons_succ])
          refine wpAnyH_ready (rs := [4]) (by kernel_rfl) (by simp) ?_
          refine AllReadyH.cons (o := ({ dst := some 28, op := Op.call { callee := Callee.value (Operand.func 46), args := #[Operand.tmp 25, Operand.tmp 27], argTypes := #[3, 3] }, type := 4, pos := "form.go:29", after := #[{ on := 1, ground := Ground.data }, { on := 3, ground := Ground.data }], guard := none } : Oper)) rfl (fun K hK => ?_) AllReadyH.nil
          go_simp
          (go_at_call 46; (with_reducible refine (HT.out _).mono ?_); rintro e w2 ⟨rfl, rfl⟩)
          refine hK.out _ _ ?c2xhS5 (fun hHeldN => ?c2xrst5)
          case c2xhS5 => ((try dsimp only); (simp [go_sem]))
          clear hHeld hK K
          have hHeld := hHeldN
          clear hHeldN
          refine wpAnyH_take (i := 5) (oi := ({ dst := some 29, op := Op.unOp UnOp.not 4 (Operand.tmp 28), type := 4, pos := "form.go:29", after := #[{ on := 4, ground := Ground.data }], guard := none } : Oper)) (v := ?c2xv6) rfl (by kernel_rfl) (by kernel_rfl) (by kernel_rfl) (fun _ _ _ h => h) (Or.inl ⟨by rfl, ?c2xhy6⟩) (by assumption) ?c2xre6
          case c2xhy6 => (intro w hSw; (try dsimp only at hSw); go_simp; try with_reducible rfl)
          (try simp only [Act.put, List.setIfInBounds_toArray, List.set_cons_zero, List.set_cons_succ])
          refine wpAnyH_take (i := 6) (oi := ({ dst := some 30, op := Op.move (Operand.tmp 29), type := 4, pos := "form.go:29", after := #[{ on := 5, ground := Ground.data }, { on := 4, ground := Ground.chain }], guard := none } : Oper)) (v := ?c2xv7) rfl (by kernel_rfl) (by kernel_rfl) (by kernel_rfl) (fun _ _ _ h => h) (Or.inl ⟨by rfl, ?c2xhy7⟩) (by assumption) ?c2xre7
          case c2xhy7 => (intro w hSw; (try dsimp only at hSw); go_simp; try with_reducible rfl)
          (try simp only [Act.put, List.setIfInBounds_toArray, List.set_cons_zero, List.set_cons_succ])
          refine wpAnyH_take (i := 7) (oi := ({ dst := some 31, op := Op.move (Operand.tmp 8), type := 3, pos := "form.go:29", after := #[{ on := 6, ground := Ground.guard }], guard := some (6, false) } : Oper)) (v := ?c2xv8) rfl (by kernel_rfl) (by kernel_rfl) (by kernel_rfl) (fun _ _ _ h => h) (Or.inl ⟨by rfl, ?c2xhy8⟩) (by assumption) ?c2xre8
          case c2xhy8 => (intro w hSw; (try dsimp only at hSw); go_simp; try with_reducible rfl)
          (try simp only [Act.put, List.setIfInBounds_toArray, List.set_cons_zero, List.set_cons_succ])
          refine wpAnyH_take (i := 8) (oi := ({ dst := some 32, op := Op.binOp BinOp.lss 3 (Operand.tmp 31) (Operand.const (Value.int IntKind.i64 0)) 3, type := 4, pos := "form.go:29", after := #[{ on := 7, ground := Ground.data }, { on := 6, ground := Ground.guard }], guard := some (6, false) } : Oper)) (v := ?c2xv9) rfl (by kernel_rfl) (by kernel_rfl) (by kernel_rfl) (fun _ _ _ h => h) (Or.inl ⟨by rfl, ?c2xhy9⟩) (by assumption) ?c2xre9
          case c2xhy9 => (intro w hSw; (try dsimp only at hSw); go_simp; try with_reducible rfl)
          (try simp only [Act.put, List.setIfInBounds_toArray, List.set_cons_zero, List.set_cons_succ])
          refine wpAnyH_take (i := 9) (oi := ({ dst := some 33, op := Op.pick (Operand.tmp 30) (Operand.const (Value.bool true)) (Operand.tmp 32), type := 4, pos := "form.go:29", after := #[{ on := 6, ground := Ground.data }, { on := 8, ground := Ground.data }], guard := none } : Oper)) (v := ?c2xv10) rfl (by kernel_rfl) (by kernel_rfl) (by kernel_rfl) (fun _ _ _ h => h) (Or.inl ⟨by rfl, ?c2xhy10⟩) (by assumption) ?c2xre10
          case c2xhy10 => (intro w hSw; (try dsimp only at hSw); go_simp; try with_reducible rfl)
          (try simp only [Act.put, List.setIfInBounds_toArray, List.set_cons_zero, List.set_cons_succ])
          refine wpAnyH_take (i := 10) (oi := ({ dst := some 34, op := Op.move (Operand.tmp 33), type := 4, pos := "form.go:29", after := #[{ on := 9, ground := Ground.data }, { on := 6, ground := Ground.chain }], guard := none } : Oper)) (v := ?c2xv11) rfl (by kernel_rfl) (by kernel_rfl) (by kernel_rfl) (fun _ _ _ h => h) (Or.inl ⟨by rfl, ?c2xhy11⟩) (by assumption) ?c2xre11
          case c2xhy11 => (intro w hSw; (try dsimp only at hSw); go_simp; try with_reducible rfl)
          (try simp only [Act.put, List.setIfInBounds_toArray, List.set_cons_zero, List.set_cons_succ])
          refine wpAnyH_take (i := 11) (oi := ({ dst := some 35, op := Op.load 39 (Operand.tmp 7), type := 39, pos := "form.go:29", after := #[{ on := 10, ground := Ground.guard }], guard := some (10, false) } : Oper)) (v := undef) rfl (by kernel_rfl) (by kernel_rfl) (by kernel_rfl) (fun _ _ _ h => h) (Or.inr ⟨by rfl, rfl⟩) (by assumption) ?c2xre12
          (try simp only [Act.put, List.setIfInBounds_toArray, List.set_cons_zero, List.set_cons_succ])
          refine wpAnyH_take (i := 12) (oi := ({ dst := some 36, op := Op.call { callee := Callee.value (Operand.func 47), args := #[Operand.tmp 35], argTypes := #[39] }, type := 4, pos := "form.go:29", after := #[{ on := 11, ground := Ground.data }, { on := 10, ground := Ground.chain }, { on := 10, ground := Ground.guard }], guard := some (10, false) } : Oper)) (v := undef) rfl (by kernel_rfl) (by kernel_rfl) (by kernel_rfl) (fun _ _ _ h => h) (Or.inr ⟨by rfl, rfl⟩) (by assumption) ?c2xre13
          (try simp only [Act.put, List.setIfInBounds_toArray, List.set_cons_zero, List.set_cons_succ])
          refine wpAnyH_take (i := 13) (oi := ({ dst := some 37, op := Op.unOp UnOp.not 4 (Operand.tmp 36), type := 4, pos := "form.go:29", after := #[{ on := 12, ground := Ground.data }, { on := 10, ground := Ground.guard }], guard := some (10, false) } : Oper)) (v := undef) rfl (by kernel_rfl) (by kernel_rfl) (by kernel_rfl) (fun _ _ _ h => h) (Or.inr ⟨by rfl, rfl⟩) (by assumption) ?c2xre14
          (try simp only [Act.put, List.setIfInBounds_toArray, List.set_cons_zero, List.set_cons_succ])
          refine wpAnyH_take (i := 14) (oi := ({ dst := some 38, op := Op.pick (Operand.tmp 34) (Operand.const (Value.bool true)) (Operand.tmp 37), type := 4, pos := "form.go:29", after := #[{ on := 10, ground := Ground.data }, { on := 13, ground := Ground.data }], guard := none } : Oper)) (v := ?c2xv15) rfl (by kernel_rfl) (by kernel_rfl) (by kernel_rfl) (fun _ _ _ h => h) (Or.inl ⟨by rfl, ?c2xhy15⟩) (by assumption) ?c2xre15
          case c2xhy15 => (intro w hSw; (try dsimp only at hSw); go_simp; try with_reducible rfl)
          (try simp only [Act.put, List.setIfInBounds_toArray, List.set_cons_zero, List.set_cons_succ])
          refine wpAnyH_take (i := 15) (oi := ({ dst := some 39, op := Op.move (Operand.tmp 38), type := 4, pos := "form.go:29", after := #[{ on := 14, ground := Ground.data }, { on := 12, ground := Ground.chain }], guard := none } : Oper)) (v := ?c2xv16) rfl (by kernel_rfl) (by kernel_rfl) (by kernel_rfl) (fun _ _ _ h => h) (Or.inl ⟨by rfl, ?c2xhy16⟩) (by assumption) ?c2xre16
          case c2xhy16 => (intro w hSw; (try dsimp only at hSw); go_simp; try with_reducible rfl)
          (try simp only [Act.put, List.setIfInBounds_toArray, List.set_cons_zero, List.set_cons_succ])
          refine wpAnyH_take (i := 16) (oi := ({ dst := some 40, op := Op.move (Operand.tmp 0), type := 22, pos := "form.go:29", after := #[{ on := 15, ground := Ground.guard }], guard := some (15, false) } : Oper)) (v := undef) rfl (by kernel_rfl) (by kernel_rfl) (by kernel_rfl) (fun _ _ _ h => h) (Or.inr ⟨by rfl, rfl⟩) (by assumption) ?c2xre17
          (try simp only [Act.put, List.setIfInBounds_toArray, List.set_cons_zero, List.set_cons_succ])
          refine wpAnyH_take (i := 17) (oi := ({ dst := some 41, op := Op.fieldAddr 39 (Operand.tmp 7) 0, type := 0, pos := "form.go:29", after := #[{ on := 15, ground := Ground.guard }], guard := some (15, false) } : Oper)) (v := undef) rfl (by kernel_rfl) (by kernel_rfl) (by kernel_rfl) (fun _ _ _ h => h) (Or.inr ⟨by rfl, rfl⟩) (by assumption) ?c2xre18
          (try simp only [Act.put, List.setIfInBounds_toArray, List.set_cons_zero, List.set_cons_succ])
          refine wpAnyH_take (i := 18) (oi := ({ dst := some 42, op := Op.load 3 (Operand.tmp 41), type := 3, pos := "form.go:29", after := #[{ on := 17, ground := Ground.data }, { on := 15, ground := Ground.guard }], guard := some (15, false) } : Oper)) (v := undef) rfl (by kernel_rfl) (by kernel_rfl) (by kernel_rfl) (fun _ _ _ h => h) (Or.inr ⟨by rfl, rfl⟩) (by assumption) ?c2xre19
          (try simp only [Act.put, List.setIfInBounds_toArray, List.set_cons_zero, List.set_cons_succ])
          refine wpAnyH_take (i := 19) (oi := ({ dst := some 43, op := Op.move (Operand.tmp 4), type := 85, pos := "form.go:29", after := #[{ on := 15, ground := Ground.guard }], guard := some (15, false) } : Oper)) (v := undef) rfl (by kernel_rfl) (by kernel_rfl) (by kernel_rfl) (fun _ _ _ h => h) (Or.inr ⟨by rfl, rfl⟩) (by assumption) ?c2xre20
          (try simp only [Act.put, List.setIfInBounds_toArray, List.set_cons_zero, List.set_cons_succ])
          refine wpAnyH_take (i := 20) (oi := ({ dst := some 44, op := Op.move (Operand.tmp 8), type := 3, pos := "form.go:29", after := #[{ on := 15, ground := Ground.guard }], guard := some (15, false) } : Oper)) (v := undef) rfl (by kernel_rfl) (by kernel_rfl) (by kernel_rfl) (fun _ _ _ h => h) (Or.inr ⟨by rfl, rfl⟩) (by assumption) ?c2xre21
          (try simp only [Act.put, List.setIfInBounds_toArray, List.set_cons_zero, List.set_cons_succ])
          refine wpAnyH_take (i := 21) (oi := ({ dst := some 45, op := Op.slice 85 (Operand.tmp 43) (some (Operand.tmp 44)) none none, type := 85, pos := "form.go:29", after := #[{ on := 19, ground := Ground.data }, { on := 20, ground := Ground.data }, { on := 15, ground := Ground.guard }], guard := some (15, false) } : Oper)) (v := undef) rfl (by kernel_rfl) (by kernel_rfl) (by kernel_rfl) (fun _ _ _ h => h) (Or.inr ⟨by rfl, rfl⟩) (by assumption) ?c2xre22
          (try simp only [Act.put, List.setIfInBounds_toArray, List.set_cons_zero, List.set_cons_succ])
          refine wpAnyH_take (i := 22) (oi := ({ dst := some 46, op := Op.call { callee := Callee.value (Operand.func 48), args := #[Operand.tmp 40, Operand.tmp 42, Operand.tmp 45], argTypes := #[22, 3, 85] }, type := 4, pos := "form.go:29", after := #[{ on := 16, ground := Ground.data }, { on := 18, ground := Ground.data }, { on := 21, ground := Ground.data }, { on := 15, ground := Ground.chain }, { on := 15, ground := Ground.guard }], guard := some (15, false) } : Oper)) (v := undef) rfl (by kernel_rfl) (by kernel_rfl) (by kernel_rfl) (fun _ _ _ h => h) (Or.inr ⟨by rfl, rfl⟩) (by assumption) ?c2xre23
          (try simp only [Act.put, List.setIfInBounds_toArray, List.set_cons_zero, List.set_cons_succ])
          refine wpAnyH_take (i := 23) (oi := ({ dst := some 47, op := Op.unOp UnOp.not 4 (Operand.tmp 46), type := 4, pos := "form.go:29", after := #[{ on := 22, ground := Ground.data }, { on := 15, ground := Ground.guard }], guard := some (15, false) } : Oper)) (v := undef) rfl (by kernel_rfl) (by kernel_rfl) (by kernel_rfl) (fun _ _ _ h => h) (Or.inr ⟨by rfl, rfl⟩) (by assumption) ?c2xre24
          (try simp only [Act.put, List.setIfInBounds_toArray, List.set_cons_zero, List.set_cons_succ])
          refine wpAnyH_take (i := 24) (oi := ({ dst := some 48, op := Op.pick (Operand.tmp 39) (Operand.const (Value.bool true)) (Operand.tmp 47), type := 4, pos := "form.go:29", after := #[{ on := 15, ground := Ground.data }, { on := 23, ground := Ground.data }], guard := none } : Oper)) (v := ?c2xv25) rfl (by kernel_rfl) (by kernel_rfl) (by kernel_rfl) (fun _ _ _ h => h) (Or.inl ⟨by rfl, ?c2xhy25⟩) (by assumption) ?c2xre25
          case c2xhy25 => (intro w hSw; (try dsimp only at hSw); go_simp; try with_reducible rfl)
          (try simp only [Act.put, List.setIfInBounds_toArray, List.set_cons_zero, List.set_cons_succ])
          refine wpAnyH_done (by kernel_rfl) ?_ _
          clear hHeld
          go_wp2
          go_ret2
          rw [HE.out]
          exact ⟨rfl, HBR.out.trans (show Below w.heap.size wr _ by (repeat' (first | (with_reducible first | exact Below.refl _ _ | assumption | refine Below.alloc ?_ ?_ _ | refine below_drewN ?_ _ | refine below_drew ?_ | refine below_ext ?_ ?_ _ _ | refine Below.setCell ?_ ?_ _) | (simp; done) | (simp; omega) | omega)))⟩
    · obtain rfl : i = len := by omega
      have hii : ¬ (i : Int) < i := by omega
      have HE := Lib.hid (show R = some (st, d) by rw [← hme.out, List.drop_eq_nil_of_le (by rw [← HL.out]; exact Nat.le_refl _)]; rfl)
      have h1 : ((sn : Int) == 1) = decide (st.length = 1) := by
        rw [← HSN.out, beq_dec]
        exact decide_eq_decide.2 (by omega)
      go_wp2
      go_ret2
      rw [HE.out]
      exact ⟨rfl, HBR.out.trans (by (repeat' (first | (with_reducible first | exact Below.refl _ _ | assumption | refine Below.alloc ?_ ?_ _ | refine below_drewN ?_ _ | refine below_drew ?_ | refine below_ext ?_ ?_ _ _ | refine Below.setCell ?_ ?_ _) | (simp; done) | (simp; omega) | omega)))⟩
end Go.Proofs.YtalahkincccffaaGreatDoor
