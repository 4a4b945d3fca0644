/-
  What is compiled is undone to itself by the document's way, too: plain.
  The document's node of an instruction.
  The document's way back, walked.
  The document's Back, walked; CodeBacks, the law.
-/
import Derived.Test.YtpgfgaloagdogaaDoorBo
import Derived.Test.YtpgfgaloagdogaaDoorBq
import Derived.Test.YtpgfgaloagdogaaDoorCodE
import Derived.BigRegion
namespace Go.Proofs.YtpgfgaloagdogaaDoor
open Go.RowKit Num Word Txt Vm

/-! ### the document's way back -/
/-- the node of an instruction that is one's -/
def nodD (i : InsD) : Option NdD := match takes i.op i.a with
  | none => none
  | some t => if 101 ≤ i.op ∨ i.op = 21 ∨ i.op = 23 then none else some ⟨i.op, t.1, i.t, i.neg, i.h.toNat * 18446744073709551616 + i.l.toNat, i.s, i.day⟩
/-- may a conditional begin at i? -/
abbrev okU (C : List InsD) (i en : Nat) (a : Int) : Prop := (i : Int) + 1 < a ∧ a ≤ en ∧ (C.getD (a.toNat - 1) (iC 0 0)).op = 101 ∧ a ≤ (C.getD (a.toNat - 1) (iC 0 0)).a ∧ (C.getD (a.toNat - 1) (iC 0 0)).a ≤ en
def undoP (C : List InsD) (i en : Nat) (out : List NdD) : Option (List NdD) :=
  if _h : i < en then
    if (C.getD i (iC 0 0)).op = 103 then undoP C (i + 1) en out
    else if (C.getD i (iC 0 0)).op = 104 then undoP C (i + 1) en (out ++ [nodIn])
    else if (C.getD i (iC 0 0)).op = 102 then
      if _hl : okU C i en (C.getD i (iC 0 0)).a then
        match undoP C (i + 1) ((C.getD i (iC 0 0)).a.toNat - 1) [], undoP C (C.getD i (iC 0 0)).a.toNat (C.getD ((C.getD i (iC 0 0)).a.toNat - 1) (iC 0 0)).a.toNat [] with
        | some b, some d => undoP C (C.getD ((C.getD i (iC 0 0)).a.toNat - 1) (iC 0 0)).a.toNat en (out ++ b ++ d ++ [nodIf])
        | _, _ => none
      else none
    else match nodD (C.getD i (iC 0 0)) with
      | some n => undoP C (i + 1) en (out ++ [n])
      | none => none
  else some out
termination_by en - i
decreasing_by
  all_goals first
    | omega
    | (obtain ⟨h1, h2, h3, h4, h5⟩ := _hl; omega)
theorem nodD_insN {x : NdD} (h : takesN x.op x.k = true) (h21 : x.op ≠ 21) (h23 : x.op ≠ 23) : nodD (insN x) = some x := by
  have hk := takes_ins h h21 h23
  have h1 := takes_op h
  have h2 := nodI_insN h h21 h23
  unfold nodD
  have h3 : takes (insN x).op (insN x).a = some (x.k, 1, 0, if 30 ≤ x.op ∧ x.op ≤ 35 then 1 else 0) := hk.1
  rw [h3]
  simp only
  rw [if_neg (by show ¬ (101 ≤ x.op ∨ x.op = 21 ∨ x.op = 23); omega)]
  congr 1
  obtain ⟨op, k, t, neg, c, s, day⟩ := x
  unfold insN
  simp only
  have hc : (Int.toNat (hi c : Int)) * 18446744073709551616 + Int.toNat (lo c : Int) = c := by
    rw [Int.toNat_natCast, Int.toNat_natCast]; unfold hi lo; omega
  rw [hc]
section
variable {l : List NdD} {P : List (List Nat)} {L : List Nat}
/-- a piece of code lies at a place -/
def Lies (C X : List InsD) (fr : Nat) : Prop := ∀ j (h : j < X.length), C.getD (fr + j) (iC 0 0) = X[j]
theorem Lies.left {C X Y : List InsD} {fr : Nat} (h : Lies C (X ++ Y) fr) : Lies C X fr := fun j hj => by
  rw [h j (by rw [List.length_append]; omega), List.getElem_append_left hj]
theorem Lies.right {C X Y : List InsD} {fr : Nat} (h : Lies C (X ++ Y) fr) : Lies C Y (fr + X.length) := fun j hj => by
  have := h (X.length + j) (by rw [List.length_append]; omega)
  rw [List.getElem_append_right (by omega)] at this
  rw [Nat.add_assoc, this]
  simp
theorem Lies.one {C : List InsD} {x : InsD} {fr : Nat} (h : Lies C [x] fr) : C.getD fr (iC 0 0) = x := by
  have := h 0 (by simp)
  simpa using this
/-- what one thing's code does on the document's way back -/
def Und (l : List NdD) (X : Nat → List InsD) (a b : Nat) : Prop := ∀ (C : List InsD) (fr en : Nat) (out : List NdD), Lies C (X fr) fr → fr + (X fr).length ≤ en → undoP C fr en out = undoP C (fr + (X fr).length) en (out ++ sgN l a b)
theorem undo_end (C : List InsD) (en : Nat) (out : List NdD) : undoP C en en out = some out := by
  unfold undoP
  rw [dif_neg (Nat.lt_irrefl _)]
theorem undo_row {f : Nat → Nat → List InsD} {op : Int} (ho : op ≠ 23) {b : Nat} {fr0 : Nat} {C : List InsD} {en : Nat} : ∀ (ps : List Nat) (a k : Nat) (outc : List InsD) (out : List NdD),
    Chain L a ps b → (∀ p ∈ ps, Und l (f p) (L.getD p 0) (p + 1)) → Lies C (rwF f op fr0 k ps outc) fr0 → fr0 + (rwF f op fr0 k ps outc).length ≤ en →
    undoP C (fr0 + outc.length) en out = undoP C (fr0 + (rwF f op fr0 k ps outc).length) en (out ++ sgN l a b)
  | [], a, k, outc, out, hc, hf, hL, he => by
    obtain rfl : a = b := hc
    rw [sgN_nil, List.append_nil]; rfl
  | p :: ps, a, k, outc, out, hc, hf, hL, he => by
    have h1 := hc.1
    have h2 := hc.2.1
    have h3 := hc.2.2.le
    have er : rwF f op fr0 k (p :: ps) outc = rwF f op fr0 (k + 1) ps (outc ++ f p (fr0 + outc.length)) := by
      show rwF f op fr0 (k + 1) ps (if op = 23 ∧ k = 0 then _ else _) = _
      rw [if_neg (fun h => ho h.1)]
    rw [er] at hL he ⊢
    have hge := rwF_ge (f := f) (op := op) (fr := fr0) ps (k + 1) (outc ++ f p (fr0 + outc.length))
    rw [List.length_append] at hge
    have hpre : ∃ c, rwF f op fr0 (k + 1) ps (outc ++ f p (fr0 + outc.length)) = outc ++ f p (fr0 + outc.length) ++ c := rw_pre ps (k + 1) _
    obtain ⟨c, hcc⟩ := hpre
    have hLp : Lies C (f p (fr0 + outc.length)) (fr0 + outc.length) := by
      rw [hcc, List.append_assoc] at hL
      exact hL.right.left
    rw [hf p (List.mem_cons_self ..) C (fr0 + outc.length) en out hLp (by omega), h1, Nat.add_assoc, ← List.length_append, undo_row ho (fr0 := fr0) ps (p + 1) (k + 1) (outc ++ f p (fr0 + outc.length)) _ hc.2.2 (fun q hq => hf q (List.mem_cons_of_mem _ hq)) hL he, List.append_assoc, sgN_join l (by omega) h3]
where rw_pre {f : Nat → Nat → List InsD} {op : Int} {fr0 : Nat} : ∀ (ps : List Nat) (k : Nat) (outc : List InsD), ∃ c, rwF f op fr0 k ps outc = outc ++ c
  | [], _, outc => ⟨[], (List.append_nil _).symm⟩
  | p :: ps, k, outc => by
    obtain ⟨c, hc⟩ := rw_pre (f := f) (op := op) (fr0 := fr0) ps (k + 1) (if op = 23 ∧ k = 0 then outc ++ f p (fr0 + outc.length) ++ [iC 103 0] else outc ++ f p (fr0 + outc.length))
    split at hc
    · rename_i h
      refine ⟨f p (fr0 + outc.length) ++ [iC 103 0] ++ c, ?_⟩
      show rwF f op fr0 (k + 1) ps (if op = 23 ∧ k = 0 then _ else _) = _
      rw [if_pos h, hc]
      simp only [List.append_assoc]
    · rename_i h
      refine ⟨f p (fr0 + outc.length) ++ c, ?_⟩
      show rwF f op fr0 (k + 1) ps (if op = 23 ∧ k = 0 then _ else _) = _
      rw [if_neg h, hc]
      simp only [List.append_assoc]
theorem undo_thing (h : Tr l P L) (hB : BareN l) : ∀ n i, i < n → i < l.length → Und l (ofF l P n i) (L.getD i 0) (i + 1) := by
  intro n
  induction n with
  | zero => intro i hi; exact absurd hi (Nat.not_lt_zero i)
  | succ n ih =>
    intro i hin hi C fr en out hL he
    have hch := h.chain i hi
    have hmem := hch.mem
    have hlow := h.low hi
    have htk := ndA_takes h hi
    have hT : ∀ p ∈ P.getD i [], Und l (ofF l P n p) (L.getD p 0) (p + 1) := fun p hp => by
      have := hmem p hp
      exact ih p (by omega) (by omega)
    have hpos : ∀ p ∈ P.getD i [], ∀ fr, 0 < (ofF l P n p fr).length := fun p hp fr => by
      obtain ⟨n', rfl⟩ : ∃ n', n = n' + 1 := ⟨n - 1, by have := hmem p hp; omega⟩
      exact ofF_pos n' p fr
    by_cases h21 : (ndA l i).op = 21
    · obtain ⟨a, b, d, e3⟩ := h.if3 hi h21
      rw [ofF_succ, if_pos h21, e3] at hL he ⊢
      rw [e3] at hch hT hpos
      simp only [List.getD_cons_zero, List.getD_cons_succ] at hL he ⊢
      have ca := hch.1
      have cb := hch.2.2.1
      have cd := hch.2.2.2.2.1
      have l1 := hch.2.1
      have l2 := hch.2.2.2.1
      have l3 := hch.2.2.2.2.2.1
      have l4 : d + 1 = i := hch.2.2.2.2.2.2
      have ta := hT a (by simp) C fr en out
      unfold ifF at hL he ⊢
      have tb := hT b (by simp) C (fr + (ofF l P n a fr).length + 1) (fr + (ofF l P n a fr).length + (ofF l P n b (fr + (ofF l P n a fr).length + 1)).length + 1) []
      have td := hT d (by simp) C (fr + (ofF l P n a fr).length + (ofF l P n b (fr + (ofF l P n a fr).length + 1)).length + 2)
      generalize hA : ofF l P n a fr = A at *
      generalize hBq : ofF l P n b (fr + A.length + 1) = B at *
      generalize hD : ofF l P n d (fr + A.length + B.length + 2) = D at *
      obtain ⟨T, hT2⟩ : ∃ T, T = fr + A.length + B.length + D.length + 2 := ⟨_, rfl⟩
      have hlT : fr + (A ++ [iC 102 (fr + A.length + B.length + 2 : Nat)] ++ B ++ [iC 101 (fr + A.length + B.length + D.length + 2 : Nat)] ++ D).length = T := by
        simp only [List.length_append, List.length_cons, List.length_nil]; omega
      rw [hlT] at he ⊢
      have L5 := hL.right
      have L4 := hL.left.right.one
      have L3 := hL.left.left.right
      have L2 := hL.left.left.left.right.one
      have L1 := hL.left.left.left.left
      rw [show fr + (A ++ [iC 102 ((fr + A.length + B.length + 2 : Nat) : Int)] ++ B ++ [iC 101 ((fr + A.length + B.length + D.length + 2 : Nat) : Int)]).length = fr + A.length + B.length + 2 by simp only [List.length_append, List.length_cons, List.length_nil]; omega] at L5
      rw [show fr + (A ++ [iC 102 ((fr + A.length + B.length + 2 : Nat) : Int)] ++ B).length = fr + A.length + B.length + 1 by simp only [List.length_append, List.length_cons, List.length_nil]; omega] at L4
      rw [show fr + (A ++ [iC 102 ((fr + A.length + B.length + 2 : Nat) : Int)]).length = fr + A.length + 1 by simp only [List.length_append, List.length_cons, List.length_nil]; omega] at L3
      rw [ta L1 (by omega)]
      have tb2 := tb L3 (by omega)
      rw [show fr + A.length + 1 + B.length = fr + A.length + B.length + 1 by omega, undo_end, List.nil_append] at tb2
      have td2 := td T [] L5 (by omega)
      rw [show fr + A.length + B.length + 2 + D.length = T by omega, undo_end, List.nil_append] at td2
      rw [undoP, dif_pos (by omega), L2]
      have o1 : (iC 102 ((fr + A.length + B.length + 2 : Nat) : Int)).op = 102 := rfl
      have o2 : (iC 102 ((fr + A.length + B.length + 2 : Nat) : Int)).a = ((fr + A.length + B.length + 2 : Nat) : Int) := rfl
      have o3 : (((fr + A.length + B.length + 2 : Nat) : Int)).toNat = fr + A.length + B.length + 2 := Int.toNat_natCast _
      rw [o1, o2, if_neg (by omega), if_neg (by omega), if_pos rfl]
      have hok : okU C (fr + A.length) en ((fr + A.length + B.length + 2 : Nat) : Int) := by
        refine ⟨by omega, by omega, ?_⟩
        rw [o3, show fr + A.length + B.length + 2 - 1 = fr + A.length + B.length + 1 by omega, L4]
        exact ⟨rfl, by show _ ≤ ((fr + A.length + B.length + D.length + 2 : Nat) : Int); omega, by show ((fr + A.length + B.length + D.length + 2 : Nat) : Int) ≤ _; omega⟩
      rw [dif_pos hok, o3, show fr + A.length + B.length + 2 - 1 = fr + A.length + B.length + 1 by omega, L4]
      have o4 : (iC 101 ((fr + A.length + B.length + D.length + 2 : Nat) : Int)).a.toNat = T := by
        show (((fr + A.length + B.length + D.length + 2 : Nat) : Int)).toNat = T
        rw [Int.toNat_natCast, hT2]
      rw [o4, tb2, td2]
      simp only
      rw [ca, cb, cd, List.append_assoc, List.append_assoc, List.append_assoc, ← (hB i hi).1 h21, ← sgN_one l hi, l4, sgN_join l (by omega) (by omega), sgN_join l (by omega) (by omega), sgN_join l (by omega) (by omega)]
    · rw [ofF_succ, if_neg h21] at hL he ⊢
      by_cases h23 : (ndA l i).op = 23
      · obtain ⟨a, b, e3⟩ := h.in2 hi h23
        rw [if_pos h23, h23, e3] at hL he ⊢
        rw [e3] at hch hT hpos
        have ca := hch.1
        have cb := hch.2.2.1
        have l1 := hch.2.1
        have l2 := hch.2.2.2.1
        have l4 : b + 1 = i := hch.2.2.2.2
        have hrow : rwF (ofF l P n) 23 fr 0 [a, b] [] = ofF l P n a fr ++ [iC 103 0] ++ ofF l P n b (fr + (ofF l P n a fr ++ [iC 103 0]).length) := by
          simp [rwF]
        rw [hrow] at hL he ⊢
        have ta := hT a (by simp) C fr en out
        have hA1 : (ofF l P n a fr ++ [iC 103 0]).length = (ofF l P n a fr).length + 1 := by simp
        rw [hA1] at hL he ⊢
        have tb := hT b (by simp) C (fr + ((ofF l P n a fr).length + 1)) en
        generalize hA : ofF l P n a fr = A at *
        generalize hBq : ofF l P n b (fr + (A.length + 1)) = B at *
        have hlT : (A ++ [iC 103 0] ++ B ++ [iC 104 0]).length = A.length + 1 + B.length + 1 := by
          simp only [List.length_append, List.length_cons, List.length_nil]
        rw [hlT] at he ⊢
        have L4 := hL.right.one
        have L3 := hL.left.right
        have L2 := hL.left.left.right.one
        have L1 := hL.left.left.left
        rw [show fr + (A ++ [iC 103 0] ++ B).length = fr + A.length + B.length + 1 by simp only [List.length_append, List.length_cons, List.length_nil]; omega] at L4
        rw [show fr + (A ++ [iC 103 0]).length = fr + (A.length + 1) by simp only [List.length_append, List.length_cons, List.length_nil]] at L3
        rw [ta L1 (by omega), undoP, dif_pos (by omega), L2, if_pos rfl, show fr + A.length + 1 = fr + (A.length + 1) by omega, tb _ L3 (by omega), undoP, dif_pos (by omega), show fr + (A.length + 1) + B.length = fr + A.length + B.length + 1 by omega, L4, if_neg (by show ¬ (104 : Int) = 103; omega), if_pos rfl]
        rw [ca, cb, List.append_assoc, List.append_assoc, ← (hB i hi).2 h23, ← sgN_one l hi, l4, sgN_join l (by omega) (by omega), sgN_join l (by omega) (by omega), show fr + A.length + B.length + 1 + 1 = fr + (A.length + 1 + B.length + 1) by omega]
      · rw [if_neg h23] at hL he ⊢
        have hlR : ∀ Rw : List InsD, (Rw ++ [insN (ndA l i)]).length = Rw.length + 1 := fun Rw => by simp
        rw [hlR] at he ⊢
        have hrun := undo_row (l := l) (L := L) (f := ofF l P n) (op := (ndA l i).op) h23 (b := i) (fr0 := fr) (C := C) (en := en) (P.getD i []) (L.getD i 0) 0 [] out hch hT hL.left (by omega)
        rw [List.length_nil, Nat.add_zero] at hrun
        have L2 := hL.right.one
        have h1 : 1 ≤ (ndA l i).op ∧ (ndA l i).op ≤ 37 := takes_op htk
        have hop : (insN (ndA l i)).op = (ndA l i).op := rfl
        rw [hrun, undoP, dif_pos (by omega), L2, hop, if_neg (by omega), if_neg (by omega), if_neg (by omega), nodD_insN htk h21 h23]
        simp only
        rw [← sgN_one l hi, List.append_assoc, sgN_join l hlow (by omega)]
        rfl
theorem undo_whole (h : Tr l P L) (hB : BareN l) {q : Nat} (hH : Chain L 0 [q] l.length) : undoP (ofF l P l.length q 0) 0 (ofF l P l.length q 0).length [] = some l := by
  have h1 : L.getD q 0 = 0 := hH.1
  have h2 : q + 1 = l.length := hH.2.2
  have h3 := undo_thing h hB l.length q (by omega) (by omega) (ofF l P l.length q 0) 0 (ofF l P l.length q 0).length [] (fun j hj => by
    rw [Nat.zero_add, List.getD_eq_getElem?_getD, List.getElem?_eq_getElem hj]; rfl) (by omega)
  rw [h3, Nat.zero_add, undo_end, h1, h2]
  show some ([] ++ sgN l 0 l.length) = some l
  unfold sgN
  simp
end
end Go.Proofs.YtpgfgaloagdogaaDoor
namespace Go.Proofs.YtpgfgaloagdogaaDoor
open Go.RowKit Num Word Txt
attribute [local go_sem] setCell_drewN cell?_ext frozen?_ext shape?_ext setCell_ext lt_1' ne_1' en_1' le_1' lt_2' ne_2' en_2' le_2' lt_3' ne_3' en_3' le_3' lt_4' ne_4' en_4' le_4' lt_5' ne_5' en_5' le_5' lt_6' ne_6' en_6' le_6' lt_7' ne_7' en_7' le_7' lt_8' ne_8' en_8' le_8' lt_9' ne_9' en_9' le_9' lt_10' ne_10' en_10' le_10' lt_11' ne_11' en_11' le_11' lt_12' ne_12' en_12' le_12'

/-- what node answers -/
def ndR : Option NdD → Value
  | some n => NdV n
  | none => NodV 0 0 ⟨#[]⟩ false 0 0 0 0
theorem nodD_val {i : InsD} (h : i.Wf) {t : Int × Int × Int × Int} (ht : Vm.takes i.op i.a = some t) (ho : ¬ (101 ≤ i.op ∨ i.op = 21 ∨ i.op = 23)) : ndR (nodD i) = NodV i.op t.1 i.t i.neg i.h i.l i.s i.day ∧ (nodD i).isSome = true := by
  obtain ⟨h1, h2⟩ := h.h
  obtain ⟨h3, h4⟩ := h.l
  have e1 : (hi (i.h.toNat * 18446744073709551616 + i.l.toNat) : Int) = i.h := by unfold hi; omega
  have e2 : (lo (i.h.toNat * 18446744073709551616 + i.l.toNat) : Int) = i.l := by unfold lo; omega
  have e3 : nodD i = some ⟨i.op, t.1, i.t, i.neg, i.h.toNat * 18446744073709551616 + i.l.toNat, i.s, i.day⟩ := by
    unfold nodD
    rw [ht]
    simp only
    rw [if_neg ho]
  rw [e3]
  refine ⟨?_, rfl⟩
  show NodV _ _ _ _ (hi _ : Int) (lo _ : Int) _ _ = _
  rw [e1, e2]
set_option maxRecDepth 100000 in
set_option maxHeartbeats 8000000 in
theorem docnode_any (i : InsD) (hw : i.Wf) (w : World) : Calls Tryd.prog 36 #[InV i] w fun e w' => e = .returned (.tuple #[ndR (nodD i), .bool (nodD i).isSome]) ∧ Below w.heap.size w w' := by
  have HTK := Lib.hid (fun w => takes_any i.op i.a i.t i.neg i.h i.l i.s i.day w)
  unfold TkQ at HTK
  cases ht : Vm.takes i.op i.a with
  | none =>
    have hd : nodD i = none := by unfold nodD; rw [ht]
    rw [hd]
    rw [ht] at HTK
    clear ht hd hw
    obtain ⟨op, a, t, neg, ha, la, s, day⟩ := i
    simp only [Option.getD_none, Option.isSome_none] at HTK
    show Calls _ _ #[InsV op a t neg ha la s day] _ _
    go_enter Tryd.func36, Tryd.ntmps36
    go_wp2_with (first | (go_at_call 53; ((with_reducible refine (HTK.out _).mono ?_); rintro e w1 ⟨rfl, hb1⟩; obtain ⟨osT, dT, rfl⟩ := ext_of_below hb1; clear hb1)))
    go_returns
    exact ⟨rfl, by (repeat' (first | (with_reducible exact Below.refl _ _) | (with_reducible assumption) | (with_reducible refine Below.alloc ?_ ?_ _) | (with_reducible refine below_drewN ?_ _) | (with_reducible refine below_drew ?_) | (with_reducible refine below_ext ?_ ?_ _ _) | (with_reducible refine Below.setCell ?_ ?_ _) | (simp; done) | (simp; omega) | omega))⟩
  | some tk =>
    obtain ⟨p, q, r, u⟩ := tk
    rw [ht] at HTK
    by_cases ho : 101 ≤ i.op ∨ i.op = 21 ∨ i.op = 23
    · have hd : nodD i = none := by unfold nodD; rw [ht]; simp only; rw [if_pos ho]
      rw [hd]
      clear ht hd hw
      obtain ⟨op, a, t, neg, ha, la, s, day⟩ := i
      simp only [Option.getD_some, Option.isSome_some] at HTK ho
      show Calls _ _ #[InsV op a t neg ha la s day] _ _
      by_cases h1 : 101 ≤ op
      · clear ho
        go_enter Tryd.func36, Tryd.ntmps36
        go_wp2_with (first | (go_at_call 53; ((with_reducible refine (HTK.out _).mono ?_); rintro e w1 ⟨rfl, hb1⟩; obtain ⟨osT, dT, rfl⟩ := ext_of_below hb1; clear hb1)))
        go_returns
        exact ⟨rfl, by (repeat' (first | (with_reducible exact Below.refl _ _) | (with_reducible assumption) | (with_reducible refine Below.alloc ?_ ?_ _) | (with_reducible refine below_drewN ?_ _) | (with_reducible refine below_drew ?_) | (with_reducible refine below_ext ?_ ?_ _ _) | (with_reducible refine Below.setCell ?_ ?_ _) | (simp; done) | (simp; omega) | omega))⟩
      · have h2 : op = 21 ∨ op = 23 := by omega
        clear ho
        rcases h2 with rfl | rfl
        all_goals
          go_enter Tryd.func36, Tryd.ntmps36
          go_wp2_with (first | (go_at_call 53; ((with_reducible refine (HTK.out _).mono ?_); rintro e w1 ⟨rfl, hb1⟩; obtain ⟨osT, dT, rfl⟩ := ext_of_below hb1; clear hb1)))
          go_returns
          exact ⟨rfl, by (repeat' (first | (with_reducible exact Below.refl _ _) | (with_reducible assumption) | (with_reducible refine Below.alloc ?_ ?_ _) | (with_reducible refine below_drewN ?_ _) | (with_reducible refine below_drew ?_) | (with_reducible refine below_ext ?_ ?_ _ _) | (with_reducible refine Below.setCell ?_ ?_ _) | (simp; done) | (simp; omega) | omega))⟩
    · obtain ⟨e1, e2⟩ := nodD_val hw ht ho
      rw [e1, e2]
      clear ht e1 e2 hw
      obtain ⟨op, a, t, neg, ha, la, s, day⟩ := i
      simp only [Option.getD_some, Option.isSome_some] at HTK ho ⊢
      have h1 : ¬ 101 ≤ op := fun h => ho (.inl h)
      have h2 : (op == 21) = false := beq_eq_false_iff_ne.2 (fun h => ho (.inr (.inl h)))
      have h3 : (op == 23) = false := beq_eq_false_iff_ne.2 (fun h => ho (.inr (.inr h)))
      clear ho
      show Calls _ _ #[InsV op a t neg ha la s day] _ _
      go_enter Tryd.func36, Tryd.ntmps36
      go_wp2_with (first | (go_at_call 53; ((with_reducible refine (HTK.out _).mono ?_); rintro e w1 ⟨rfl, hb1⟩; obtain ⟨osT, dT, rfl⟩ := ext_of_below hb1; clear hb1)))
      go_returns
      exact ⟨rfl, by (repeat' (first | (with_reducible exact Below.refl _ _) | (with_reducible assumption) | (with_reducible refine Below.alloc ?_ ?_ _) | (with_reducible refine below_drewN ?_ _) | (with_reducible refine below_drew ?_) | (with_reducible refine below_ext ?_ ?_ _ _) | (with_reducible refine Below.setCell ?_ ?_ _) | (simp; done) | (simp; omega) | omega))⟩
end Go.Proofs.YtpgfgaloagdogaaDoor
namespace Go.Proofs.YtpgfgaloagdogaaDoor
open Go.RowKit Num Word Txt
attribute [local go_sem] setCell_drewN cell?_ext frozen?_ext shape?_ext setCell_ext lt_1' ne_1' en_1' le_1' lt_2' ne_2' en_2' le_2' lt_3' ne_3' en_3' le_3' lt_4' ne_4' en_4' le_4' lt_5' ne_5' en_5' le_5' lt_6' ne_6' en_6' le_6' lt_7' ne_7' en_7' le_7' lt_8' ne_8' en_8' le_8' lt_9' ne_9' en_9' le_9' lt_10' ne_10' en_10' le_10' lt_11' ne_11' en_11' le_11' lt_12' ne_12' en_12' le_12'

/-- a list without an element, put behind a list of the call's own: nothing turns -/
theorem append_none {α : Type} {K : El} {enc : α → List Value} {ops : Array Oper} {rest : List Oper} {o : Oper} {a : Act} {Q : Exit → Act → World → Prop} {w : World} (hK : K.Ok Tryd.prog) (hgd : o.guard = none) (s x : Operand)
    (ho : o.op = .call { callee := .builtin .append, args := #[s, x], argTypes := #[K.S, K.S] })
    {v : Value} {B : Nat} {l : List α} (hs : a.eval s = v) (hb : OL K enc B w v l) {p : Option Addr} {c : Nat} (hx : a.eval x = .slice p 0 c)
    (h : wpList Tryd.prog ops Q rest (a.put o.dst v) w) : wpList Tryd.prog ops Q (o :: rest) a w := by
  obtain ⟨i0, hi, hz0, hz1, hz2⟩ := info_parts hK.info
  obtain ⟨q, cap, rfl, -, hle⟩ := OL.form hb
  refine wpList_plain hgd fun K2 hK2 => ?_
  have hr := run_append_nothing (P := Tryd.prog) w K.S K.S o.type K.T i0 hK.und hi q l.length cap hle (.slice p 0 c) (src_none0 hK.und w p c)
  unfold Oper.wp execOp
  simp only [ho, resolve, invoke, builtin, Sem.run_bind, Sem.run_pure, Result.andThen_ok, List.map_toArray, List.map_cons, List.map_nil, hs, hx, hr]
  exact hK2 _ _ h
/-- how undo ends -/
def UnQ (R : Option (List NdD)) (w : World) (e : Ending) (w' : World) : Prop := Below w.heap.size w w' ∧ match R with
  | none => e = .returned (.tuple #[.slice none 0 0, .bool false])
  | some l => ∃ v, e = .returned (.tuple #[v, .bool true]) ∧ OL ndK ndE w.heap.size w' v l
/-- a list of the call's own put behind another one, of whatever length -/
theorem append_ol2 {α : Type} {K : El} {enc : α → List Value} {ops : Array Oper} {rest : List Oper} {o : Oper} {a : Act} {Q : Exit → Act → World → Prop} {w : World} (hK : K.Ok Tryd.prog) (hc : Cells K enc) (hgd : o.guard = none) (s x : Operand)
    (ho : o.op = .call { callee := .builtin .append, args := #[s, x], argTypes := #[K.S, K.S] })
    {v vx : Value} {B B2 : Nat} {l m : List α} (hs : a.eval s = v) (hb : OL K enc B w v l) (hx : a.eval x = vx) (hm : OL K enc B2 w vx m) (hlen : l.length + m.length ≤ 1000000) (hB : B ≤ w.heap.size)
    (h : ∀ v' w', OL K enc B w' v' (l ++ m) → Ot (fun k => v.ownBlock = some k) w w' → wpList Tryd.prog ops Q rest (a.put o.dst v') w') : wpList Tryd.prog ops Q (o :: rest) a w := by
  obtain ⟨q, c, rfl, hq, -⟩ := OL.form hm
  by_cases h0 : m.length = 0
  · have hme : m = [] := List.eq_nil_of_length_eq_zero h0
    subst hme
    refine append_none hK hgd s x ho hs hb hx ?_
    have := h v w (by rw [List.append_nil]; exact hb) (Ot.refl _ _)
    exact this
  · obtain ⟨g, rfl, -, hg⟩ := hq (by omega)
    refine wpList_append_ols hK hc hgd s x ho hs w hb rfl hx (fun j hj i u hu => by rw [Nat.zero_add]; exact OL.cell hc hm j i hj hu) (by omega) hlen hB ?_
    intro g' cap' w' h1 h2 _ _ _
    exact h _ _ h1 h2
theorem undo_len {C : List InsD} : ∀ (N i en : Nat) (out r : List NdD), en - i < N → undoP C i en out = some r → r.length ≤ out.length + (en - i) := by
  intro N
  induction N with
  | zero => intro i en out r h; exact absurd h (Nat.not_lt_zero _)
  | succ N ih =>
    intro i en out r hN h
    rw [undoP] at h
    split at h
    case isFalse => injection h with h; subst h; omega
    case isTrue hlt =>
    split at h
    · have := ih _ _ _ _ (by omega) h; omega
    · split at h
      · have := ih _ _ _ _ (by omega) h
        simp only [List.length_append, List.length_cons, List.length_nil] at this; omega
      · split at h
        · split at h
          case isFalse => cases h
          case isTrue hok =>
          obtain ⟨h1, h2, h3, h4, h5⟩ := hok
          split at h
          case h_2 => cases h
          case h_1 b d hb hd =>
          have e1 := ih _ _ _ _ (by omega) hb
          have e2 := ih _ _ _ _ (by omega) hd
          have e3 := ih _ _ _ _ (by omega) h
          simp only [List.length_append, List.length_cons, List.length_nil] at e1 e2 e3
          omega
        · split at h
          · have := ih _ _ _ _ (by omega) h
            simp only [List.length_append, List.length_cons, List.length_nil] at this; omega
          · cases h
section
variable {C : List InsD} {w0 : World} {n0 : Nat}
set_option maxRecDepth 100000 in
set_option maxHeartbeats 16000000 in
theorem undo_any {v : Value} (hv : RL 8 insE n0 w0 v C) (hn0 : n0 ≤ w0.heap.size) (hl : C.length ≤ 600) (hwf : ∀ i ∈ C, i.Wf) : ∀ (N i en : Nat), en - i < N → i ≤ en → en ≤ C.length → ∀ w, Below w0.heap.size w0 w →
    Calls Tryd.prog 21 #[v, .int .i64 i, .int .i64 en] w fun e w' => UnQ (undoP C i en []) w e w' := by
  obtain ⟨p, c, rfl, h2⟩ := hv
  have H2 := Lib.hid h2
  have HWF := Lib.hid hwf
  obtain ⟨len, hlen⟩ : ∃ len, len = C.length := ⟨_, rfl⟩
  have HL := Lib.hid hlen
  rw [← hlen] at hl ⊢
  clear h2 hlen hwf
  intro N
  induction N with
  | zero => intro i en h; exact absurd h (Nat.not_lt_zero _)
  | succ N ih =>
    intro i0 en hN hie hen w hbw
    have HIH := Lib.hid ih
    have HBW := Lib.hid hbw
    have hsw := hbw.size
    obtain ⟨R, hR⟩ : ∃ R, R = undoP C i0 en [] := ⟨_, rfl⟩
    have HR0 := Lib.hid hR.symm
    have HNIL := Lib.hid (OL.nil ndK ndE w.heap.size w)
    have HREF := Lib.hid (Below.refl w.heap.size w)
    rw [← hR]
    clear hR hbw ih
    go_enter Tryd.func21, Tryd.ntmps21
    go_wp2
    go_loopw [8, 9] (fun x z wr => ∃ (k : Nat) (ns : List NdD), z = .int .i64 k ∧ i0 ≤ k ∧ k ≤ en ∧ ns.length ≤ k ∧ Hid (OL ndK ndE w.heap.size wr x ns) ∧ Hid (Below w.heap.size w wr) ∧ Hid (undoP C k en ns = R)) (fun _ z _ => en - (intOf z).toNat)
    case atStart => exact ⟨i0, [], rfl, Nat.le_refl _, hie, Nat.zero_le _, HNIL, HREF, HR0⟩
    case round =>
      obtain ⟨k, ns, rfl, hik, hke, hns, hol, hbe, hun⟩ := hrel
      clear HR0 HNIL HREF
      obtain ⟨qx, cx, hvx, hqx, hcx⟩ := OL.form hol.out
      obtain ⟨nn, hnn⟩ : ∃ nn, nn = ns.length := ⟨_, rfl⟩
      rw [← hnn] at hvx hqx hcx
      obtain rfl : u8 = .slice qx nn cx := hvx
      have HOL := Lib.hid hol.out
      have HBR := Lib.hid hbe.out
      have hswr := hbe.out.size
      have HN1 := Lib.hid (show ns.length + 1 = nn + 1 by rw [hnn])
      by_cases hkl : k < en
      · have hkl1 : (k : Int) < (en : Int) := by omega
        have hkC : k < C.length := by rw [← HL.out]; omega
        obtain ⟨g, o, rfl, hg, hc⟩ := H2.out (by omega)
        have hgr : g < w.heap.size := by omega
        have hgw : g < wr.heap.size := by omega
        have HC2 := Lib.hid (show ∀ W, Below w.heap.size w W → ∀ j (h : j < C.length) i u, (insE C[j])[i]? = some u → W.cell? ⟨g, o + j * 8 + i, none⟩ = some u from fun W hW j hj i u hu => by
          rw [(HBW.out.trans (hW.mono hsw)).cell (p := ⟨g, _, none⟩) (show g < w0.heap.size by omega)]; exact hc j hj i u hu)
        obtain ⟨op, ia, t, neg, ha, la, sc, day, he, x0, x1, x2, x3, x4, x5, x6, x7⟩ := ins_cells (HC2.out wr HBR.out) k hkC
        have hWf : (⟨op, ia, t, neg, ha, la, sc, day⟩ : InsD).Wf := he ▸ HWF.out C[k] (List.getElem_mem hkC)
        have hgd : C.getD k (iC 0 0) = ⟨op, ia, t, neg, ha, la, sc, day⟩ := by rw [getD_at C k _ hkC, he]
        have hu0 := hun.out
        rw [undoP, dif_pos hkl, hgd] at hu0
        simp only at hu0
        have hlen3 : len ≤ 600 := hl
        have hnk : nn ≤ 600 := by omega
        have hnk2 : nn ≤ k := by omega
        have HNN := Lib.hid hnn.symm
        clear hc he hun hol hbe hqx hcx hgd hnn
        by_cases h103 : op = 103
        · subst h103
          rw [if_pos rfl] at hu0
          have HU := Lib.hid hu0
          clear hu0 hWf
          go_wp2
          refine ⟨⟨k + 1, ns, rfl, by omega, by omega, by rw [HNN.out]; omega, Lib.hid (OL.new HOL.out (show Below wr.heap.size wr _ by (repeat' (first | (with_reducible exact Below.refl _ _) | (with_reducible assumption) | (with_reducible refine Below.alloc ?_ ?_ _) | (with_reducible refine below_drewN ?_ _) | (with_reducible refine below_drew ?_) | (with_reducible refine below_ext ?_ ?_ _ _) | (with_reducible refine Below.setCell ?_ ?_ _) | (simp; done) | (simp; omega) | omega)))), Lib.hid (HBR.out.trans ((show Below wr.heap.size wr _ by (repeat' (first | (with_reducible exact Below.refl _ _) | (with_reducible assumption) | (with_reducible refine Below.alloc ?_ ?_ _) | (with_reducible refine below_drewN ?_ _) | (with_reducible refine below_drew ?_) | (with_reducible refine below_ext ?_ ?_ _ _) | (with_reducible refine Below.setCell ?_ ?_ _) | (simp; done) | (simp; omega) | omega))).mono hswr)), HU⟩, by simp [intOf]; omega⟩
        rw [if_neg h103] at hu0
        by_cases h104 : op = 104
        · subst h104
          rw [if_pos rfl] at hu0
          have HU := Lib.hid hu0
          clear hu0 hWf
          go_wp2_with (at_builtin; refine append_elem ndK_ok ndE_cells rfl _ _ rfl rfl _ nodIn rfl (OL.new HOL.out (show Below wr.heap.size wr _ by (repeat' (first | (with_reducible exact Below.refl _ _) | (with_reducible assumption) | (with_reducible refine Below.alloc ?_ ?_ _) | (with_reducible refine below_drewN ?_ _) | (with_reducible refine below_drew ?_) | (with_reducible refine below_ext ?_ ?_ _ _) | (with_reducible refine Below.setCell ?_ ?_ _) | (simp; done) | (simp; omega) | omega)))) HN1.out (by simp [Act.eval]) (by omega) (by first | omega | (simp; omega)) ?_; intro g3 cap3 w3 hob hoth hat hg3 hsz3; have HB3 := Lib.hid (OL.below (OL.new HOL.out (show Below wr.heap.size wr _ by (repeat' (first | (with_reducible exact Below.refl _ _) | (with_reducible assumption) | (with_reducible refine Below.alloc ?_ ?_ _) | (with_reducible refine below_drewN ?_ _) | (with_reducible refine below_drew ?_) | (with_reducible refine below_ext ?_ ?_ _ _) | (with_reducible refine Below.setCell ?_ ?_ _) | (simp; done) | (simp; omega) | omega)))) (HBR.out.trans ((show Below wr.heap.size wr _ by (repeat' (first | (with_reducible exact Below.refl _ _) | (with_reducible assumption) | (with_reducible refine Below.alloc ?_ ?_ _) | (with_reducible refine below_drewN ?_ _) | (with_reducible refine below_drew ?_) | (with_reducible refine below_ext ?_ ?_ _ _) | (with_reducible refine Below.setCell ?_ ?_ _) | (simp; done) | (simp; omega) | omega))).mono hswr)) (Nat.le_refl _) hoth); have HO3 := Lib.hid hob; clear hob hoth hat hg3 hsz3)
          refine ⟨⟨k + 1, ns ++ [nodIn], rfl, by omega, by omega, by rw [List.length_append, HNN.out]; simp only [List.length_cons, List.length_nil]; omega, HO3, HB3, HU⟩, by simp [intOf]; omega⟩
        rw [if_neg h104] at hu0
        by_cases h102 : op = 102
        · subst h102
          rw [if_pos rfl] at hu0
          have hWf2 := hWf
          clear hWf
          have q1 : (102 : Int) = 102 := rfl
          by_cases k1 : (k : Int) + 1 < ia
          case neg =>
            have HU := Lib.hid (show R = none by rw [← hu0, dif_neg (fun h => k1 h.1)])
            have k1' : ia ≤ (k : Int) + 1 := by omega
            clear hu0 k1
            go_wp2
            go_ret2
            rw [HU.out]
            exact ⟨HBR.out.trans ((show Below wr.heap.size wr _ by (repeat' (first | (with_reducible exact Below.refl _ _) | (with_reducible assumption) | (with_reducible refine Below.alloc ?_ ?_ _) | (with_reducible refine below_drewN ?_ _) | (with_reducible refine below_drew ?_) | (with_reducible refine below_ext ?_ ?_ _ _) | (with_reducible refine Below.setCell ?_ ?_ _) | (simp; done) | (simp; omega) | omega))).mono hswr), rfl⟩
          by_cases k2 : ia ≤ (en : Int)
          case neg =>
            have HU := Lib.hid (show R = none by rw [← hu0, dif_neg (fun h => k2 h.2.1)])
            have k1' : ¬ ia ≤ (k : Int) + 1 := by omega
            have k2' : (en : Int) < ia := by omega
            clear hu0 k1 k2
            go_wp2
            go_ret2
            rw [HU.out]
            exact ⟨HBR.out.trans ((show Below wr.heap.size wr _ by (repeat' (first | (with_reducible exact Below.refl _ _) | (with_reducible assumption) | (with_reducible refine Below.alloc ?_ ?_ _) | (with_reducible refine below_drewN ?_ _) | (with_reducible refine below_drew ?_) | (with_reducible refine below_ext ?_ ?_ _ _) | (with_reducible refine Below.setCell ?_ ?_ _) | (simp; done) | (simp; omega) | omega))).mono hswr), rfl⟩
          obtain ⟨lN, rfl⟩ : ∃ lN : Nat, ia = (lN : Int) := ⟨ia.toNat, by omega⟩
          obtain ⟨l1, hl1⟩ : ∃ l1, l1 = lN - 1 := ⟨_, rfl⟩
          have E1 : (lN : Int) - 1 = (l1 : Int) := by omega
          have hl1C : l1 < C.length := by rw [← HL.out]; omega
          obtain ⟨op', A, t', neg', ha', la', sc', day', he', y0, y1, y2, y3, y4, y5, y6, y7⟩ := ins_cells (HC2.out wr HBR.out) l1 hl1C
          have hgd' : C.getD l1 (iC 0 0) = ⟨op', A, t', neg', ha', la', sc', day'⟩ := by rw [getD_at C l1 _ hl1C, he']
          have hAw := (he' ▸ HWF.out C[l1] (List.getElem_mem hl1C) : (⟨op', A, t', neg', ha', la', sc', day'⟩ : InsD).Wf)
          have Y1 := Lib.hid (show ∀ W, Below w.heap.size w W → W.cell? ⟨g, o + l1 * 8 + 1, none⟩ = some (.int .i64 A) from fun W hW => HC2.out W hW l1 hl1C 1 _ (by rw [he']; rfl))
          have hoU : okU C k en (lN : Int) ↔ (op' = 101 ∧ (lN : Int) ≤ A ∧ A ≤ en) := by
            unfold okU
            rw [Int.toNat_natCast, ← hl1, hgd']
            exact ⟨fun h => h.2.2, fun h => ⟨k1, k2, h⟩⟩
          have k1' : ¬ (lN : Int) ≤ (k : Int) + 1 := by omega
          have k2' : ¬ (en : Int) < (lN : Int) := by omega
          clear he' hAw y2 y3 y4 y5 y6 y7
          by_cases k3 : op' = 101
          case neg =>
            have HU := Lib.hid (show R = none by rw [← hu0, dif_neg (fun h => k3 (hoU.1 h).1)])
            have k3' : (op' != 101) = true := bne_iff_ne.2 k3
            clear hu0 hoU k1 k2 k3 hl1 hgd'
            go_wp2
            go_ret2
            rw [HU.out]
            exact ⟨HBR.out.trans ((show Below wr.heap.size wr _ by (repeat' (first | (with_reducible exact Below.refl _ _) | (with_reducible assumption) | (with_reducible refine Below.alloc ?_ ?_ _) | (with_reducible refine below_drewN ?_ _) | (with_reducible refine below_drew ?_) | (with_reducible refine below_ext ?_ ?_ _ _) | (with_reducible refine Below.setCell ?_ ?_ _) | (simp; done) | (simp; omega) | omega))).mono hswr), rfl⟩
          subst k3
          by_cases k4 : (lN : Int) ≤ A
          case neg =>
            have HU := Lib.hid (show R = none by rw [← hu0, dif_neg (fun h => k4 (hoU.1 h).2.1)])
            have k4' : A < (lN : Int) := by omega
            clear hu0 hoU k1 k2 k4 hl1 hgd'
            go_wp2
            go_ret2
            rw [HU.out]
            exact ⟨HBR.out.trans ((show Below wr.heap.size wr _ by (repeat' (first | (with_reducible exact Below.refl _ _) | (with_reducible assumption) | (with_reducible refine Below.alloc ?_ ?_ _) | (with_reducible refine below_drewN ?_ _) | (with_reducible refine below_drew ?_) | (with_reducible refine below_ext ?_ ?_ _ _) | (with_reducible refine Below.setCell ?_ ?_ _) | (simp; done) | (simp; omega) | omega))).mono hswr), rfl⟩
          by_cases k5 : A ≤ (en : Int)
          case neg =>
            have HU := Lib.hid (show R = none by rw [← hu0, dif_neg (fun h => k5 (hoU.1 h).2.2)])
            have k4' : ¬ A < (lN : Int) := by omega
            have k5' : (en : Int) < A := by omega
            clear hu0 hoU k1 k2 k4 k5 hl1 hgd'
            go_wp2
            go_ret2
            rw [HU.out]
            exact ⟨HBR.out.trans ((show Below wr.heap.size wr _ by (repeat' (first | (with_reducible exact Below.refl _ _) | (with_reducible assumption) | (with_reducible refine Below.alloc ?_ ?_ _) | (with_reducible refine below_drewN ?_ _) | (with_reducible refine below_drew ?_) | (with_reducible refine below_ext ?_ ?_ _ _) | (with_reducible refine Below.setCell ?_ ?_ _) | (simp; done) | (simp; omega) | omega))).mono hswr), rfl⟩
          rw [dif_pos (hoU.2 ⟨rfl, k4, k5⟩), Int.toNat_natCast, ← hl1, hgd'] at hu0
          simp only at hu0
          obtain ⟨AN, rfl⟩ : ∃ AN : Nat, A = (AN : Int) := ⟨A.toNat, by omega⟩
          rw [Int.toNat_natCast] at hu0
          have k4' : ¬ (AN : Int) < (lN : Int) := by omega
          have k5' : ¬ (en : Int) < (AN : Int) := by omega
          have hAC : AN ≤ len := by omega
          obtain ⟨R1, hr1⟩ : ∃ R1, R1 = undoP C (k + 1) l1 [] := ⟨_, rfl⟩
          obtain ⟨R2, hr2⟩ : ∃ R2, R2 = undoP C lN AN [] := ⟨_, rfl⟩
          have HU1 := Lib.hid (show ∀ W, Below w.heap.size w W → Calls Tryd.prog 21 #[.slice (some ⟨g, o, none⟩) len c, .int .i64 ((k : Int) + 1), .int .i64 (l1 : Int)] W fun e w' => UnQ R1 W e w' from fun W hW => hr1 ▸ HIH.out (k + 1) l1 (by omega) (by omega) (by omega) W (HBW.out.trans (hW.mono hsw)))
          have HU2 := Lib.hid (show ∀ W, Below w.heap.size w W → Calls Tryd.prog 21 #[.slice (some ⟨g, o, none⟩) len c, .int .i64 (lN : Int), .int .i64 (AN : Int)] W fun e w' => UnQ R2 W e w' from fun W hW => hr2 ▸ HIH.out lN AN (by omega) (by omega) (by omega) W (HBW.out.trans (hW.mono hsw)))
          have hb1 : ∀ b, R1 = some b → b.length ≤ l1 - (k + 1) := fun b e => by
            have := undo_len (C := C) (l1 - (k + 1) + 1) (k + 1) l1 [] b (by omega) (by rw [← hr1, e])
            simpa using this
          have hb2 : ∀ d, R2 = some d → d.length ≤ AN - lN := fun d e => by
            have := undo_len (C := C) (AN - lN + 1) lN AN [] d (by omega) (by rw [← hr2, e])
            simpa using this
          rw [← hr1, ← hr2] at hu0
          unfold UnQ at HU1 HU2
          clear hr1 hr2 hgd' hoU
          cases R1 with
          | none =>
            have HU := Lib.hid (show R = none from hu0.symm)
            clear hu0 hb1 hb2 hl1 k1 k2 k4 k5
            cases R2 with
            | none =>
              go_wp2_with (first
                | (go_at_call 21; (with_reducible refine (HU1.out _ (HBR.out.trans ((show Below wr.heap.size wr _ by (repeat' (first | (with_reducible exact Below.refl _ _) | (with_reducible assumption) | (with_reducible refine Below.alloc ?_ ?_ _) | (with_reducible refine below_drewN ?_ _) | (with_reducible refine below_drew ?_) | (with_reducible refine below_ext ?_ ?_ _ _) | (with_reducible refine Below.setCell ?_ ?_ _) | (simp; done) | (simp; omega) | omega))).mono hswr))).mono ?_); rintro e w1 ⟨hc1, rfl⟩; have HB1 := Lib.hid (HBR.out.trans (((show Below wr.heap.size wr _ by (repeat' (first | (with_reducible exact Below.refl _ _) | (with_reducible assumption) | (with_reducible refine Below.alloc ?_ ?_ _) | (with_reducible refine below_drewN ?_ _) | (with_reducible refine below_drew ?_) | (with_reducible refine below_ext ?_ ?_ _ _) | (with_reducible refine Below.setCell ?_ ?_ _) | (simp; done) | (simp; omega) | omega))).trans (hc1.mono (by simp))).mono hswr)); have y1a := Y1.out _ HB1.out; clear hc1 y1)
                | (go_at_call 21; (with_reducible refine (HU2.out _ HB1.out).mono ?_); rintro e w2 ⟨hc2, rfl⟩; have HB2 := Lib.hid (HB1.out.trans (hc2.mono HB1.out.size)); clear hc2))
              go_ret2
              rw [HU.out]
              exact ⟨HB2.out, rfl⟩
            | some d =>
              go_wp2_with (first
                | (go_at_call 21; (with_reducible refine (HU1.out _ (HBR.out.trans ((show Below wr.heap.size wr _ by (repeat' (first | (with_reducible exact Below.refl _ _) | (with_reducible assumption) | (with_reducible refine Below.alloc ?_ ?_ _) | (with_reducible refine below_drewN ?_ _) | (with_reducible refine below_drew ?_) | (with_reducible refine below_ext ?_ ?_ _ _) | (with_reducible refine Below.setCell ?_ ?_ _) | (simp; done) | (simp; omega) | omega))).mono hswr))).mono ?_); rintro e w1 ⟨hc1, rfl⟩; have HB1 := Lib.hid (HBR.out.trans (((show Below wr.heap.size wr _ by (repeat' (first | (with_reducible exact Below.refl _ _) | (with_reducible assumption) | (with_reducible refine Below.alloc ?_ ?_ _) | (with_reducible refine below_drewN ?_ _) | (with_reducible refine below_drew ?_) | (with_reducible refine below_ext ?_ ?_ _ _) | (with_reducible refine Below.setCell ?_ ?_ _) | (simp; done) | (simp; omega) | omega))).trans (hc1.mono (by simp))).mono hswr)); have y1a := Y1.out _ HB1.out; clear hc1 y1)
                | (go_at_call 21; (with_reducible refine (HU2.out _ HB1.out).mono ?_); rintro e w2 ⟨hc2, v2, rfl, -⟩; have HB2 := Lib.hid (HB1.out.trans (hc2.mono HB1.out.size)); clear hc2))
              go_ret2
              rw [HU.out]
              exact ⟨HB2.out, rfl⟩
          | some b =>
            cases R2 with
            | none =>
              have HU := Lib.hid (show R = none from hu0.symm)
              clear hu0 hb1 hb2 hl1 k1 k2 k4 k5
              go_wp2_with (first
                | (go_at_call 21; (with_reducible refine (HU1.out _ (HBR.out.trans ((show Below wr.heap.size wr _ by (repeat' (first | (with_reducible exact Below.refl _ _) | (with_reducible assumption) | (with_reducible refine Below.alloc ?_ ?_ _) | (with_reducible refine below_drewN ?_ _) | (with_reducible refine below_drew ?_) | (with_reducible refine below_ext ?_ ?_ _ _) | (with_reducible refine Below.setCell ?_ ?_ _) | (simp; done) | (simp; omega) | omega))).mono hswr))).mono ?_); rintro e w1 ⟨hc1, v1, rfl, -⟩; have HB1 := Lib.hid (HBR.out.trans (((show Below wr.heap.size wr _ by (repeat' (first | (with_reducible exact Below.refl _ _) | (with_reducible assumption) | (with_reducible refine Below.alloc ?_ ?_ _) | (with_reducible refine below_drewN ?_ _) | (with_reducible refine below_drew ?_) | (with_reducible refine below_ext ?_ ?_ _ _) | (with_reducible refine Below.setCell ?_ ?_ _) | (simp; done) | (simp; omega) | omega))).trans (hc1.mono (by simp))).mono hswr)); have y1a := Y1.out _ HB1.out; clear hc1 y1)
                | (go_at_call 21; (with_reducible refine (HU2.out _ HB1.out).mono ?_); rintro e w2 ⟨hc2, rfl⟩; have HB2 := Lib.hid (HB1.out.trans (hc2.mono HB1.out.size)); clear hc2))
              go_ret2
              rw [HU.out]
              exact ⟨HB2.out, rfl⟩
            | some d =>
              have hbl := hb1 b rfl
              have hdl := hb2 d rfl
              have HU := Lib.hid (show undoP C AN en (ns ++ b ++ d ++ [nodIf]) = R from hu0)
              obtain ⟨a1, ha1⟩ : ∃ a1, a1 = AN - 1 := ⟨_, rfl⟩
              have E2 : (AN : Int) - 1 = (a1 : Int) := by omega
              have E3 : (a1 : Int) + 1 = (AN : Int) := by omega
              have HLB := Lib.hid (show ns.length + b.length ≤ 1000000 by rw [HNN.out]; omega)
              have HLD := Lib.hid (show (ns ++ b).length + d.length ≤ 1000000 by rw [List.length_append, HNN.out]; omega)
              have HLF := Lib.hid (show (ns ++ b ++ d ++ [nodIf]).length ≤ AN by simp only [List.length_append, List.length_cons, List.length_nil, HNN.out]; omega)
              obtain ⟨nf, hnf⟩ : ∃ nf, (ns ++ b ++ d).length + 1 = nf := ⟨_, rfl⟩
              have hnf2 : nf ≤ 1000000 := by rw [← hnf]; simp only [List.length_append, HNN.out]; omega
              have HNF := Lib.hid hnf
              have hAk : k + 2 ≤ AN := by omega
              clear hu0 hb1 hb2 hbl hdl hl1 k1 k2 k4 k5 ha1 hnf
              go_wp2_with (first
                | (go_at_call 21; (with_reducible refine (HU1.out _ (HBR.out.trans ((show Below wr.heap.size wr _ by (repeat' (first | (with_reducible exact Below.refl _ _) | (with_reducible assumption) | (with_reducible refine Below.alloc ?_ ?_ _) | (with_reducible refine below_drewN ?_ _) | (with_reducible refine below_drew ?_) | (with_reducible refine below_ext ?_ ?_ _ _) | (with_reducible refine Below.setCell ?_ ?_ _) | (simp; done) | (simp; omega) | omega))).mono hswr))).mono ?_); rintro e w1 ⟨hc1, v1, rfl, ho1⟩; have hsz1 := hc1.size; have HB1 := Lib.hid (HBR.out.trans (((show Below wr.heap.size wr _ by (repeat' (first | (with_reducible exact Below.refl _ _) | (with_reducible assumption) | (with_reducible refine Below.alloc ?_ ?_ _) | (with_reducible refine below_drewN ?_ _) | (with_reducible refine below_drew ?_) | (with_reducible refine below_ext ?_ ?_ _ _) | (with_reducible refine Below.setCell ?_ ?_ _) | (simp; done) | (simp; omega) | omega))).trans (hc1.mono (by simp))).mono hswr)); have y1a := Y1.out _ HB1.out; have HO1 := Lib.hid ho1; have HN1 := Lib.hid (OL.new (OL.new HOL.out (show Below wr.heap.size wr _ by (repeat' (first | (with_reducible exact Below.refl _ _) | (with_reducible assumption) | (with_reducible refine Below.alloc ?_ ?_ _) | (with_reducible refine below_drewN ?_ _) | (with_reducible refine below_drew ?_) | (with_reducible refine below_ext ?_ ?_ _ _) | (with_reducible refine Below.setCell ?_ ?_ _) | (simp; done) | (simp; omega) | omega)))) hc1); clear hc1 y1 ho1)
                | (go_at_call 21; (with_reducible refine (HU2.out _ HB1.out).mono ?_); rintro e w2 ⟨hc2, v2, rfl, ho2⟩; have hsz2 := hc2.size; have HB2 := Lib.hid (HB1.out.trans (hc2.mono HB1.out.size)); have HO2 := Lib.hid ho2; have HP1 := Lib.hid (OL.new HO1.out hc2); have HN2 := Lib.hid (OL.new HN1.out hc2); clear hc2 ho2)
                | (at_builtin; refine append_ol2 ndK_ok ndE_cells rfl _ _ rfl rfl HN2.out rfl HP1.out HLB.out (by have := HB2.out.size; omega) ?_; intro v3 w3 hq3 hot3; have HB3 := Lib.hid (OL.below HN2.out HB2.out (Nat.le_refl _) hot3); have HD3 := Lib.hid (OL.kept HO2.out hot3 (fun q e1 e2 => by have := (World.ownsRow.lt HO2.out q e1).1; have := (World.ownsRow.lt HN1.out q e2).2; omega)); have HO3 := Lib.hid hq3; clear hq3 hot3)
                | (at_builtin; refine append_ol2 ndK_ok ndE_cells rfl _ _ rfl rfl HO3.out rfl HD3.out HLD.out (by have := HB3.out.size; omega) ?_; intro v4 w4 hq4 hot4; have HB4 := Lib.hid (OL.below HO3.out HB3.out (Nat.le_refl _) hot4); have HO4 := Lib.hid hq4; clear hq4 hot4)
                | (at_builtin; refine append_elem ndK_ok ndE_cells rfl _ _ rfl rfl _ nodIf rfl HO4.out HNF.out (by simp [Act.eval]) hnf2 (by have := HB4.out.size; omega) ?_; intro g5 cap5 w5 hob hoth hat hg5 hsz5; have HB5 := Lib.hid (OL.below HO4.out HB4.out (Nat.le_refl _) hoth); have y1c := Y1.out _ HB5.out; have HO5 := Lib.hid hob; clear hob hoth hat hg5 hsz5 y1a))
              refine ⟨⟨AN, ns ++ b ++ d ++ [nodIf], rfl, by omega, by omega, HLF.out, HO5, HB5, HU⟩, by simp [intOf]; omega⟩
        rw [if_neg h102] at hu0
        have q102 : (op == 102) = false := beq_eq_false_iff_ne.2 h102
        have q103 : (op == 103) = false := beq_eq_false_iff_ne.2 h103
        have q104 : (op == 104) = false := beq_eq_false_iff_ne.2 h104
        have HND := Lib.hid (fun w => docnode_any ⟨op, ia, t, neg, ha, la, sc, day⟩ hWf w)
        cases hnd : nodD ⟨op, ia, t, neg, ha, la, sc, day⟩ with
        | none =>
          rw [hnd] at hu0 HND
          have HU := Lib.hid (show R = none from hu0.symm)
          have HND2 := Lib.hid (show ∀ w, Calls Tryd.prog 36 #[InsV op ia t neg ha la sc day] w fun e w' => e = .returned (.tuple #[NodV 0 0 ⟨#[]⟩ false 0 0 0 0, .bool false]) ∧ Below w.heap.size w w' from HND.out)
          clear hu0 hWf hnd HND h102 h103 h104
          have HND := HND2
          clear HND2
          go_wp2_with (go_at_call 36; (with_reducible refine (HND.out _).mono ?_); rintro e9 w1 ⟨rfl, hb1⟩; have HO1 := Lib.hid (OL.new (OL.new HOL.out (show Below wr.heap.size wr _ by (repeat' (first | (with_reducible exact Below.refl _ _) | (with_reducible assumption) | (with_reducible refine Below.alloc ?_ ?_ _) | (with_reducible refine below_drewN ?_ _) | (with_reducible refine below_drew ?_) | (with_reducible refine below_ext ?_ ?_ _ _) | (with_reducible refine Below.setCell ?_ ?_ _) | (simp; done) | (simp; omega) | omega)))) hb1); have HB1 := Lib.hid (HBR.out.trans (((show Below wr.heap.size wr _ by (repeat' (first | (with_reducible exact Below.refl _ _) | (with_reducible assumption) | (with_reducible refine Below.alloc ?_ ?_ _) | (with_reducible refine below_drewN ?_ _) | (with_reducible refine below_drew ?_) | (with_reducible refine below_ext ?_ ?_ _ _) | (with_reducible refine Below.setCell ?_ ?_ _) | (simp; done) | (simp; omega) | omega))).trans (hb1.mono (by simp))).mono hswr)); have hsz1 := hb1.size; clear hb1)
          go_ret2
          rw [HU.out]
          exact ⟨HB1.out.alloc HB1.out.size _, rfl⟩
        | some N1 =>
          rw [hnd] at hu0 HND
          have HU := Lib.hid (show undoP C (k + 1) en (ns ++ [N1]) = R from hu0)
          have HND2 := Lib.hid (show ∀ w, Calls Tryd.prog 36 #[InsV op ia t neg ha la sc day] w fun e w' => e = .returned (.tuple #[NodV N1.op N1.k N1.t N1.neg (hi N1.c : Int) (lo N1.c : Int) N1.s N1.day, .bool true]) ∧ Below w.heap.size w w' from HND.out)
          clear hu0 hWf hnd HND h102 h103 h104
          have HND := HND2
          clear HND2
          go_wp2_with (first
            | (go_at_call 36; (with_reducible refine (HND.out _).mono ?_); rintro e9 w1 ⟨rfl, hb1⟩; have HO1 := Lib.hid (OL.new (OL.new HOL.out (show Below wr.heap.size wr _ by (repeat' (first | (with_reducible exact Below.refl _ _) | (with_reducible assumption) | (with_reducible refine Below.alloc ?_ ?_ _) | (with_reducible refine below_drewN ?_ _) | (with_reducible refine below_drew ?_) | (with_reducible refine below_ext ?_ ?_ _ _) | (with_reducible refine Below.setCell ?_ ?_ _) | (simp; done) | (simp; omega) | omega)))) hb1); have HB1 := Lib.hid (HBR.out.trans (((show Below wr.heap.size wr _ by (repeat' (first | (with_reducible exact Below.refl _ _) | (with_reducible assumption) | (with_reducible refine Below.alloc ?_ ?_ _) | (with_reducible refine below_drewN ?_ _) | (with_reducible refine below_drew ?_) | (with_reducible refine below_ext ?_ ?_ _ _) | (with_reducible refine Below.setCell ?_ ?_ _) | (simp; done) | (simp; omega) | omega))).trans (hb1.mono (by simp))).mono hswr)); have hsz1 := hb1.size; clear hb1)
            | (at_builtin; refine append_elem ndK_ok ndE_cells rfl _ _ rfl rfl _ N1 rfl (OL.new HO1.out ((Below.refl w1.heap.size w1).alloc (Nat.le_refl _) _)) HN1.out (by simp [Act.eval]) (by omega) (by have := HB1.out.size; first | omega | (simp; omega)) ?_; intro g3 cap3 w3 hob hoth hat hg3 hsz3; have HB3 := Lib.hid (OL.below (OL.new HO1.out ((Below.refl w1.heap.size w1).alloc (Nat.le_refl _) _)) (HB1.out.alloc HB1.out.size _) (Nat.le_refl _) hoth); have HO3 := Lib.hid hob; clear hob hoth hat hg3 hsz3))
          refine ⟨⟨k + 1, ns ++ [N1], rfl, by omega, by omega, by rw [List.length_append, HNN.out]; simp only [List.length_cons, List.length_nil]; omega, HO3, HB3, HU⟩, by simp [intOf]; omega⟩
      · have hkl1 : ¬ (k : Int) < (en : Int) := by omega
        have HU := Lib.hid (show R = some ns by rw [← hun.out, undoP, dif_neg hkl])
        clear hun hol hbe hqx hcx hnn
        go_wp2
        go_ret2
        rw [HU.out]
        exact ⟨HBR.out, _, rfl, HOL.out⟩
end
end Go.Proofs.YtpgfgaloagdogaaDoor
namespace Go.Proofs.YtpgfgaloagdogaaDoor
open Go.RowKit Num Word Txt
attribute [local go_sem] setCell_drewN cell?_ext frozen?_ext shape?_ext setCell_ext lt_1' ne_1' en_1' le_1' lt_2' ne_2' en_2' le_2' lt_3' ne_3' en_3' le_3' lt_4' ne_4' en_4' le_4' lt_5' ne_5' en_5' le_5' lt_6' ne_6' en_6' le_6' lt_7' ne_7' en_7' le_7' lt_8' ne_8' en_8' le_8' lt_9' ne_9' en_9' le_9' lt_10' ne_10' en_10' le_10' lt_11' ne_11' en_11' le_11' lt_12' ne_12' en_12' le_12'

theorem ite_s {β : Type} {c : Prop} [Decidable c] {x y : Option β} {t : β} (h : (if c then x else y) = some t) : (c ∧ x = some t) ∨ (¬ c ∧ y = some t) := by
  by_cases hc : c
  · rw [if_pos hc] at h; exact .inl ⟨hc, h⟩
  · rw [if_neg hc] at h; exact .inr ⟨hc, h⟩
theorem takes_k {op a : Int} {t : Int × Int × Int × Int} (ht : Vm.takes op a = some t) : (Vm.cnt op ∧ t.1 = a) ∨ (0 ≤ t.1 ∧ t.1 ≤ 3) := by
  unfold Vm.takes at ht
  rcases ite_s ht with ⟨-, h⟩ | ⟨-, ht⟩
  · cases h
  rcases ite_s ht with ⟨-, h⟩ | ⟨-, ht⟩
  · cases h
  rcases ite_s ht with ⟨hc, h⟩ | ⟨-, ht⟩
  · injection h with h; subst h; exact .inl ⟨hc, rfl⟩
  iterate 10 (rcases ite_s ht with ⟨-, h⟩ | ⟨-, ht⟩; (injection h with h; subst h; exact .inr ⟨by decide, by decide⟩))
  cases ht
theorem nodD_wf {i : InsD} {x : NdD} (h : i.Wf) (e : nodD i = some x) : x.Wf ∧ x.t.size ≤ 1048576 := by
  have h1 := h.h
  have h2 := h.l
  have h3 := h.t
  have hm : (1048576 : Nat) ≤ maxLen := by unfold maxLen; omega
  unfold nodD at e
  split at e
  · cases e
  · rename_i t ht
    split at e
    · cases e
    · injection e with e
      subst e
      refine ⟨⟨Nat.le_trans h3 hm, ?_, ?_⟩, h3⟩
      · show i.h.toNat * 18446744073709551616 + i.l.toNat < top2
        unfold top2; omega
      · show -9223372036854775808 ≤ t.1 ∧ t.1 < 9223372036854775808
        rcases takes_k ht with ⟨hc, e⟩ | ⟨e1, e2⟩
        · rw [e]; exact h.a hc
        · omega
theorem undo_wf {C : List InsD} (hC : ∀ i ∈ C, i.Wf) : ∀ (N i en : Nat) (out r : List NdD), en - i < N → en ≤ C.length → (∀ x ∈ out, x.Wf ∧ x.t.size ≤ 1048576) → undoP C i en out = some r → ∀ x ∈ r, x.Wf ∧ x.t.size ≤ 1048576 := by
  have hIf : nodIf.Wf ∧ nodIf.t.size ≤ 1048576 := bare_wf (by omega)
  have hIn : nodIn.Wf ∧ nodIn.t.size ≤ 1048576 := bare_wf (by omega)
  have happ : ∀ {a b : List NdD}, (∀ x ∈ a, x.Wf ∧ x.t.size ≤ 1048576) → (∀ x ∈ b, x.Wf ∧ x.t.size ≤ 1048576) → ∀ x ∈ a ++ b, x.Wf ∧ x.t.size ≤ 1048576 := fun ha hb x hx => by
    rcases List.mem_append.1 hx with hx | hx
    · exact ha x hx
    · exact hb x hx
  have hone : ∀ {y : NdD}, (y.Wf ∧ y.t.size ≤ 1048576) → ∀ x ∈ [y], x.Wf ∧ x.t.size ≤ 1048576 := fun hy x hx => by rw [List.mem_singleton] at hx; subst hx; exact hy
  intro N
  induction N with
  | zero => intro i en out r h; exact absurd h (Nat.not_lt_zero _)
  | succ N ih =>
    intro i en out r hN hen ho h
    rw [undoP] at h
    split at h
    case isFalse => injection h with h; subst h; exact ho
    case isTrue hlt =>
    have hiC : C[i] ∈ C := List.getElem_mem (by omega)
    have hgd : C.getD i (iC 0 0) = C[i] := getD_at C i _ (by omega)
    split at h
    · exact ih _ _ _ _ (by omega) hen ho h
    · split at h
      · exact ih _ _ _ _ (by omega) hen (happ ho (hone hIn)) h
      · split at h
        · split at h
          case isFalse => cases h
          case isTrue hok =>
          obtain ⟨h1, h2, h3, h4, h5⟩ := hok
          split at h
          case h_2 => cases h
          case h_1 b d hb hd =>
          have e1 := ih _ _ _ _ (by omega) (by omega) (fun x hx => by cases hx) hb
          have e2 := ih _ _ _ _ (by omega) (by omega) (fun x hx => by cases hx) hd
          exact ih _ _ _ _ (by omega) hen (happ (happ (happ ho e1) e2) (hone hIf)) h
        · split at h
          · rename_i n hn
            rw [hgd] at hn
            exact ih _ _ _ _ (by omega) hen (happ ho (hone (nodD_wf (hC _ hiC) hn))) h
          · cases h
/-- what the document's Back answers -/
noncomputable def dbE (R : Option (List NdD)) (C : List InsD) (tests : Bool) : Int := if 600 < C.length then 6 else match R with
  | none => 2
  | some N => if docE N tests = 0 ∧ sameB (codL N) C = true then 0 else 2
theorem undo_yes {l : List NdD} {tests : Bool} (h : docE l tests = 0) : undoP (codL l) 0 (codL l).length [] = some l := by
  obtain ⟨q, P, L, hy⟩ := yes_of h
  rw [hy.code]
  exact undo_whole hy.tree hy.bare hy.whole
/-- both ways back are one -/
theorem back_same (C : List InsD) (tests : Bool) : dbE (undoP C 0 C.length []) C tests = bkE C tests ∧ (bkE C tests = 0 → undoP C 0 C.length [] = some (decP 0 C [] [])) := by
  by_cases h6 : 600 < C.length
  · have e1 : bkE C tests = 6 := by unfold bkE; rw [if_pos h6]
    refine ⟨by unfold dbE; rw [if_pos h6, e1], fun h => by rw [e1] at h; cases h⟩
  by_cases hb : docE (decP 0 C [] []) tests = 0 ∧ sameB (codL (decP 0 C [] [])) C = true
  · have e1 : bkE C tests = 0 := by unfold bkE; rw [if_neg h6, if_pos hb]
    have e2 := undo_yes hb.1
    rw [(sameB_iff _ _).1 hb.2] at e2
    refine ⟨?_, fun _ => e2⟩
    unfold dbE
    rw [if_neg h6, e2, e1]
    simp only
    rw [if_pos hb]
  · have e1 : bkE C tests = 2 := by unfold bkE; rw [if_neg h6, if_neg hb]
    refine ⟨?_, fun h => by rw [e1] at h; cases h⟩
    unfold dbE
    rw [if_neg h6, e1]
    cases hu : undoP C 0 C.length [] with
    | none => rfl
    | some N =>
      simp only
      rw [if_neg]
      intro hn
      obtain ⟨hi, hR⟩ := round_of hn.1
      have hd := hR.back.1
      have hs := (sameB_iff _ _).1 hn.2
      rw [hs] at hd
      apply hb
      rw [hd]
      exact hn
set_option maxRecDepth 100000 in
set_option maxHeartbeats 8000000 in
theorem docback_any {C : List InsD} {tests : Bool} {n : Nat} {w : World} {v : Value} (hv : RL 8 insE n w v C) (hn : n ≤ w.heap.size) (hwf : ∀ i ∈ C, i.Wf) :
    Calls Tryd.prog 12 #[v, .bool tests] w fun e w' => BkQ (bkE C tests) (decP 0 C [] []) w e w' := by
  obtain ⟨hsame, hsame2⟩ := back_same C tests
  rw [← hsame] at hsame2 ⊢
  obtain ⟨R, hR⟩ : ∃ R, R = undoP C 0 C.length [] := ⟨_, rfl⟩
  obtain ⟨D, hD⟩ : ∃ D, D = decP 0 C [] [] := ⟨_, rfl⟩
  rw [← hD]
  rw [← hD] at hsame2
  have HVR := Lib.hid (hv.more hn)
  have HDE := Lib.hid (fun (h6 : C.length ≤ 600) => undo_any (hv.keep ((Below.refl w.heap.size w).mono hn)) hn h6 hwf (C.length + 1) 0 C.length (by omega) (Nat.zero_le _) (Nat.le_refl _) w (Below.refl _ _))
  rw [← hR] at HDE hsame2
  have hNw : ∀ N, R = some N → ∀ x ∈ N, x.Wf ∧ x.t.size ≤ 1048576 := fun N e => undo_wf hwf (C.length + 1) 0 C.length [] N (by omega) (Nat.le_refl _) (fun x hx => by cases hx) (hR.symm.trans e)
  obtain ⟨E, hE⟩ : ∃ E, E = dbE R C tests := ⟨_, rfl⟩
  rw [← hR, ← hE]
  rw [← hE] at hsame2
  obtain ⟨p, c, rfl, -⟩ := hv
  obtain ⟨len, hlen⟩ : ∃ len, len = C.length := ⟨_, rfl⟩
  unfold dbE at hE
  rw [← hlen] at HDE hE HVR ⊢
  clear hR hD hsame hwf
  have HLEN := Lib.hid hlen
  clear hlen
  by_cases h6 : 600 < len
  · have HEE := Lib.hid (show E = 6 by rw [hE, if_pos h6])
    have h6i : (600 : Int) < (len : Int) := by omega
    clear hE hsame2
    go_enter Tryd.func12, Tryd.ntmps12
    go_wp2
    go_ret2
    rw [HEE.out]
    exact ⟨Below.refl _ _, _, rfl, RL.nil _ _ _ _⟩
  · have h6i : ¬ (600 : Int) < (len : Int) := by omega
    rw [if_neg h6] at hE
    have HDE2 := Lib.hid (HDE.out (by omega))
    unfold UnQ at HDE2
    rw [show ((0 : Nat) : Int) = 0 from rfl] at HDE2
    clear HDE
    cases R with
    | none =>
      have HEE := Lib.hid (show E = 2 from hE)
      clear hE hsame2 hNw
      go_enter Tryd.func12, Tryd.ntmps12
      go_wp2_with (first
        | (go_at_call 21; (with_reducible refine (HDE2.out).mono ?_); rintro e w1 ⟨hb1, rfl⟩; have HB1 := Lib.hid hb1; clear hb1))
      go_ret2
      rw [HEE.out]
      exact ⟨HB1.out, _, rfl, RL.nil _ _ _ _⟩
    | some N =>
      have hN := hNw N rfl
      have HDK := Lib.hid (fun w' x (ho : OL ndK ndE w.heap.size w' x N) => dcheck_any N tests _ w' x (ol_rl ndE_cells ho) (Nat.le_refl _) (fun x hx => (hN x hx).1) (fun x hx => (hN x hx).2))
      obtain ⟨F, hF⟩ : ∃ F, F = docE N tests := ⟨_, rfl⟩
      obtain ⟨G, hG⟩ : ∃ G, G = codL N := ⟨_, rfl⟩
      rw [← hF] at HDK
      have hE2 : E = if F = 0 ∧ sameB G C = true then 0 else 2 := by rw [hE, hF, hG]
      clear hE hN hNw
      by_cases h0 : F = 0
      · subst h0
        obtain ⟨q, P, L, hy⟩ := yes_of hF.symm
        have hfew := hy.few
        have hpos : 0 < N.length := by have h9 : q + 1 = N.length := hy.whole.2.2; omega
        have HCP := Lib.hid (fun w' x (ho : OL ndK ndE w.heap.size w' x N) => doccode_any (ol_rl ndE_cells ho) (Nat.le_refl _) hfew hpos hy.stk)
        rw [← hG] at HCP
        have hGl : G.length ≤ 1000000 := by have := hy.len; rw [hG]; omega
        obtain ⟨sb, hsb⟩ : ∃ sb, sb = sameB G C := ⟨_, rfl⟩
        have HEE := Lib.hid (show E = if sb = true then 0 else 2 by rw [hE2, hsb]; simp)
        have HEQ := Lib.hid (fun w' v' x (h1 : RL 8 insE w'.heap.size w' v' G) (h2 : RL 8 insE w.heap.size w' x C) => isame_any h1 h2 hGl)
        rw [← hsb] at HEQ
        clear hE2 hsb hGl hfew hpos hy hG hF
        cases sb with
        | true =>
          have HE0 := Lib.hid (show E = 0 by rw [HEE.out]; rfl)
          have HND := Lib.hid (show N = D from Option.some.inj (hsame2 HE0.out))
          clear hsame2
          go_enter Tryd.func12, Tryd.ntmps12
          go_wp2_with (first
            | (go_at_call 21; (with_reducible refine (HDE2.out).mono ?_); rintro e w1 ⟨hb1, v1, rfl, ho1⟩; have HO1 := Lib.hid ho1; have HB1 := Lib.hid hb1; clear ho1 hb1)
            | (go_at_call 15; (with_reducible refine (HDK.out _ _ HO1.out).mono ?_); rintro e w2 ⟨rfl, hb2⟩; have HB2 := Lib.hid (HB1.out.trans (hb2.mono HB1.out.size)); have HO2 := Lib.hid (OL.new HO1.out hb2); clear hb2)
            | (go_at_call 18; (with_reducible refine (HCP.out _ _ HO2.out).mono ?_); rintro e w3 ⟨v3, rfl, hr3, hb3⟩; have HB3 := Lib.hid (HB2.out.trans (hb3.mono HB2.out.size)); have HR3 := Lib.hid hr3; have HO3 := Lib.hid (OL.new HO2.out hb3); clear hr3 hb3)
            | (go_at_call 11; (with_reducible refine (HEQ.out _ _ _ HR3.out (HVR.out.keep HB3.out)).mono ?_); rintro e w4 ⟨rfl, hb4⟩; have HB4 := Lib.hid (HB3.out.trans (hb4.mono HB3.out.size)); have HO4 := Lib.hid (OL.new HO3.out hb4); clear hb4))
          go_ret2
          rw [HE0.out]
          exact ⟨HB4.out, _, rfl, by rw [if_pos rfl, ← HND.out]; exact ol_rl ndE_cells HO4.out⟩
        | false =>
          have HE0 := Lib.hid (show E = 2 by rw [HEE.out]; rfl)
          clear hsame2
          go_enter Tryd.func12, Tryd.ntmps12
          go_wp2_with (first
            | (go_at_call 21; (with_reducible refine (HDE2.out).mono ?_); rintro e w1 ⟨hb1, v1, rfl, ho1⟩; have HO1 := Lib.hid ho1; have HB1 := Lib.hid hb1; clear ho1 hb1)
            | (go_at_call 15; (with_reducible refine (HDK.out _ _ HO1.out).mono ?_); rintro e w2 ⟨rfl, hb2⟩; have HB2 := Lib.hid (HB1.out.trans (hb2.mono HB1.out.size)); have HO2 := Lib.hid (OL.new HO1.out hb2); clear hb2)
            | (go_at_call 18; (with_reducible refine (HCP.out _ _ HO2.out).mono ?_); rintro e w3 ⟨v3, rfl, hr3, hb3⟩; have HB3 := Lib.hid (HB2.out.trans (hb3.mono HB2.out.size)); have HR3 := Lib.hid hr3; clear hr3 hb3)
            | (go_at_call 11; (with_reducible refine (HEQ.out _ _ _ HR3.out (HVR.out.keep HB3.out)).mono ?_); rintro e w4 ⟨rfl, hb4⟩; have HB4 := Lib.hid (HB3.out.trans (hb4.mono HB3.out.size)); clear hb4))
          go_ret2
          rw [HE0.out]
          exact ⟨HB4.out, _, rfl, RL.nil _ _ _ _⟩
      · have HEE := Lib.hid (show E = 2 by rw [hE2, if_neg (fun h => h0 h.1)])
        have hnb : (F != 0) = true := bne_iff_ne.2 h0
        clear hE2 hsame2 hF hG
        go_enter Tryd.func12, Tryd.ntmps12
        go_wp2_with (first
          | (go_at_call 21; (with_reducible refine (HDE2.out).mono ?_); rintro e w1 ⟨hb1, v1, rfl, ho1⟩; have HO1 := Lib.hid ho1; have HB1 := Lib.hid hb1; clear ho1 hb1)
          | (go_at_call 15; (with_reducible refine (HDK.out _ _ HO1.out).mono ?_); rintro e w2 ⟨rfl, hb2⟩; have HB2 := Lib.hid (HB1.out.trans (hb2.mono HB1.out.size)); clear hb2))
        go_ret2
        rw [HEE.out]
        exact ⟨HB2.out, _, rfl, RL.nil _ _ _ _⟩
set_option maxRecDepth 100000 in
set_option maxHeartbeats 8000000 in
theorem codeBacks_law (C : List InsD) (tests : Bool) (n : Nat) (w : World) (v : Value) (hv : RL 8 insE n w v C) (hn : n ≤ w.heap.size) (hwf : ∀ i ∈ C, i.Wf) (hT : Tens w) (hU : Tabs w) :
    Calls Tryd.prog 4 #[v, .bool tests] w fun e w' => e = .returned (.bool true) ∧ Below w.heap.size w w' := by
  have HKN := Lib.hid (codknown_any w)
  have HDB := Lib.hid (fun w' (hb : Below w.heap.size w w') => docback_any (tests := tests) (hv.keep (hb.mono hn)) (Nat.le_trans hn hb.size) hwf)
  have HBK := Lib.hid (fun w' (hb : Below w.heap.size w w') => cback_any (tests := tests) (hv.keep (hb.mono hn)) (Nat.le_trans hn hb.size) hwf (hT.below hb) (hU.below hb))
  unfold BkQ at HDB HBK
  have hDl : (if bkE C tests = 0 then decP 0 C [] [] else []).length ≤ 1000000 := by
    split
    · rename_i h0
      have h1 := (back_same C tests).2 h0
      by_cases h6 : 600 < C.length
      · unfold bkE at h0; rw [if_pos h6] at h0; cases h0
      · have := undo_len (C := C) (C.length + 1) 0 C.length [] _ (by omega) h1
        simp only [List.length_nil] at this
        omega
    · exact Nat.zero_le _
  obtain ⟨D, hD⟩ : ∃ D, D = if bkE C tests = 0 then decP 0 C [] [] else [] := ⟨_, rfl⟩
  obtain ⟨E, hE⟩ : ∃ E, E = bkE C tests := ⟨_, rfl⟩
  rw [← hD] at HDB HBK hDl
  rw [← hE] at HDB HBK
  have HSA := Lib.hid (fun w' (a b : Value) n1 (h1 : RL 8 ndE n1 w' a D) (h2 : RL 8 ndE w'.heap.size w' b D) => rsameN_refl h1 h2 hDl)
  obtain ⟨p, c, rfl, -⟩ := hv
  generalize C.length = len at HDB HBK ⊢
  clear hD hE hDl hT hU hwf
  go_enter Tryd.func4, Tryd.ntmps4
  go_wp2_with (first
    | (go_at_call 8; (with_reducible refine (HKN.out).mono ?_); rintro e w1 ⟨rfl, hb1⟩; have HB1 := Lib.hid hb1; clear hb1)
    | (go_at_call 12; (with_reducible refine (HDB.out _ HB1.out).mono ?_); rintro e w2 ⟨hb2, v2, rfl, hr2⟩; have HB2 := Lib.hid (HB1.out.trans (hb2.mono HB1.out.size)); have HR2 := Lib.hid hr2; clear hb2 hr2)
    | (go_at_call 13; (with_reducible refine (HBK.out _ HB2.out).mono ?_); rintro e w3 ⟨hb3, v3, rfl, hr3⟩; have HB3 := Lib.hid (HB2.out.trans (hb3.mono HB2.out.size)); have HR3 := Lib.hid hr3; have HS3 := Lib.hid (HR2.out.keep hb3); clear hb3 hr3)
    | (go_at_call 14; (with_reducible refine (HSA.out _ _ _ _ HS3.out HR3.out).mono ?_); rintro e w4 ⟨rfl, hb4⟩; have HB4 := Lib.hid (HB3.out.trans (hb4.mono HB3.out.size)); clear hb4))
  all_goals
    go_ret
    exact ⟨rfl, HB4.out⟩
end Go.Proofs.YtpgfgaloagdogaaDoor
