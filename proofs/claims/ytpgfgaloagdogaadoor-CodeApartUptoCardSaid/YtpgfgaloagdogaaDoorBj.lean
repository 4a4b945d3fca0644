/-
  A list put behind a list of the call's own, of whatever elements.
  The document's instruction of a node.
  The program's instruction of a node.
  The document's code of nodes, walked: by recursion over the parts.
-/
import Derived.Test.YtpgfgaloagdogaaDoorTreA
import Derived.Test.YtpgfgaloagdogaaDoorPlcA
import Derived.Test.YtpgfgaloagdogaaDoorCodE
import Derived.Deep.RegionHeld3
import Derived.Test.YtpgfgaloagdogaaDoorBb
import Derived.BigRegion
namespace Go.Proofs.YtpgfgaloagdogaaDoor
open Go.RowKit Num Word Txt

section
variable {α : Type} {K : El} {enc : α → List Value} {B : Nat} {w w' : World} {v : Value} {l : List α}
theorem OL.lit0 (K : El) (enc : α → List Value) {B : Nat} {w : World} (hB : B ≤ w.heap.size) : OL K enc B (w.alloc (.cells #[] K.T)) (.slice (some ⟨w.heap.size, 0, none⟩) 0 0) [] :=
  ⟨by simp, .inr ⟨w.heap.size, 0, #[], rfl, hB, heap_alloc_new w _, Nat.le_refl _, by unfold maxLen; omega, by simp, by simp⟩⟩
theorem wpList_append_ols {P : Program} {ops : Array Oper} {rest : List Oper} {o : Oper} {a : Act} {Q : Exit → Act → World → Prop} (hK : K.Ok P) (hc : Cells K enc) (hgd : o.guard = none) (s x : Operand)
    (ho : o.op = .call { callee := .builtin .append, args := #[s, x], argTypes := #[K.S, K.S] })
    (hs : a.eval s = v) (w0 : World) (hb : OL K enc B w0 v l) {m : List α} {g off cap k : Nat} (hk : m.length = k) (hx : a.eval x = .slice (some ⟨g, off, none⟩) k cap)
    (hcell : ∀ j (h : j < m.length) i u, (enc m[j])[i]? = some u → w0.cell? ⟨g, off + j * K.size + i, none⟩ = some u) (hm : 0 < m.length) (hlen : l.length + m.length ≤ 1000000) (hB : B ≤ w0.heap.size)
    (h : ∀ g' cap' w', OL K enc B w' (.slice (some ⟨g', 0, none⟩) (l.length + k) cap') (l ++ m) → Ot (fun k => v.ownBlock = some k) w0 w' → (v.ownBlock = some g' ∨ w0.heap.size ≤ g') → g' < w'.heap.size → w0.heap.size ≤ w'.heap.size → wpList P ops Q rest (a.put o.dst (.slice (some ⟨g', 0, none⟩) (l.length + k) cap')) w') : wpList P ops Q (o :: rest) a w0 := by
  subst hk
  obtain ⟨i0, hi, hz0, hz1, hz2⟩ := info_parts hK.info
  have hpos := hK.pos
  refine wpList_append_lies _ hgd s x K.S ho B K.T i0 K.zero K.size K.bytes hK.und hi hz0 hz1 hz2 hK.cells hK.pos v l.length (l.flatMap enc) hs hb ⟨g, off, none⟩ m.length cap (m.flatMap enc) hx (flat_len hc m) ?_ ?_ hm (by unfold maxLen; omega) ?_ hB w0.heap.size rfl ?_
  · intro j u hj
    have hjl : j < m.length * K.size := by rw [← flat_len hc m]; exact (List.getElem?_eq_some_iff.1 hj).1
    obtain ⟨q, hq⟩ : ∃ q, q = j / K.size := ⟨_, rfl⟩
    obtain ⟨r, hr⟩ : ∃ r, r = j % K.size := ⟨_, rfl⟩
    have hj2 : j = q * K.size + r := by rw [hq, hr, Nat.mul_comm]; exact (Nat.div_add_mod j K.size).symm
    have hrl : r < K.size := hr ▸ Nat.mod_lt _ hpos
    have hql : q < m.length := by rw [hq]; exact Nat.div_lt_of_lt_mul (by rw [Nat.mul_comm]; exact hjl)
    rw [hj2, flat_at hc m q r hql hrl] at hj
    have h1 := hcell q hql r u hj
    have ead : (⟨g, off, none⟩ : Addr).add j = ⟨g, off + j, none⟩ := by
      by_cases h0 : j = 0
      · subst h0; rfl
      · simp [Addr.add, h0]
    rw [ead, hj2, ← Nat.add_assoc]
    exact h1
  · intro u hu
    obtain ⟨c, _, hu2⟩ := List.mem_flatMap.1 hu
    exact (hc c).2 u hu2
  · have := hK.few
    calc (l.length + m.length) * K.bytes ≤ 1000001 * 1000 := Nat.mul_le_mul (by omega) this
      _ ≤ 140737488355328 := by decide
  · intro g2 cap2 w2 hown hgrow hat hlt
    have hsz := hgrow.size
    refine h g2 cap2 w2 ⟨flat_len hc _, ?_⟩ ⟨hgrow.os, hgrow.tape, hgrow.output, hsz, fun k hk hne => hgrow.block k hk (fun e => hne e.symm)⟩ (hat.imp id (fun e => by omega)) hlt hsz
    have h2 := hown.2
    rw [List.length_append, List.flatMap_append]
    exact h2
/-- .. with the lengths by name -/
theorem append_list {P : Program} {ops : Array Oper} {rest : List Oper} {o : Oper} {a : Act} {Q : Exit → Act → World → Prop} (hK : K.Ok P) (hc : Cells K enc) (hgd : o.guard = none) (s x : Operand)
    (ho : o.op = .call { callee := .builtin .append, args := #[s, x], argTypes := #[K.S, K.S] })
    (hs : a.eval s = v) (w0 : World) (hb : OL K enc B w0 v l) {m : List α} {g off cap k nk : Nat} (hk : m.length = k) (hnk : l.length + k = nk) (hx : a.eval x = .slice (some ⟨g, off, none⟩) k cap)
    (hcell : ∀ j (h : j < m.length) i u, (enc m[j])[i]? = some u → w0.cell? ⟨g, off + j * K.size + i, none⟩ = some u) (hm : 0 < k) (hlen : nk ≤ 1000000) (hB : B ≤ w0.heap.size)
    (h : ∀ g' cap' w', OL K enc B w' (.slice (some ⟨g', 0, none⟩) nk cap') (l ++ m) → Ot (fun k => v.ownBlock = some k) w0 w' → (v.ownBlock = some g' ∨ w0.heap.size ≤ g') → g' < w'.heap.size → w0.heap.size ≤ w'.heap.size → wpList P ops Q rest (a.put o.dst (.slice (some ⟨g', 0, none⟩) nk cap')) w') : wpList P ops Q (o :: rest) a w0 := by
  subst hnk
  exact wpList_append_ols hK hc hgd s x ho hs w0 hb hk hx hcell (by omega) (by omega) hB h
theorem append_elem {P : Program} {ops : Array Oper} {rest : List Oper} {o : Oper} {a : Act} {Q : Exit → Act → World → Prop} (hK : K.Ok P) (hc : Cells K enc) (hgd : o.guard = none) (s x : Operand)
    (ho : o.op = .call { callee := .builtin .append, args := #[s, x], argTypes := #[K.S, K.S] })
    (hs : a.eval s = v) (w0 : World) (c : α) {row : Array Value} (hrow : row = (enc c).toArray) (hb : OL K enc B w0 v l) {nk : Nat} (hnk : l.length + 1 = nk)
    (hx : a.eval x = .slice (some ⟨w0.heap.size, 0, none⟩) 1 1) (hlen : nk ≤ 1000000) (hB : B ≤ w0.heap.size)
    (h : ∀ g cap w', OL K enc B w' (.slice (some ⟨g, 0, none⟩) nk cap) (l ++ [c]) → Ot (fun k => v.ownBlock = some k) w0 w' → (v.ownBlock = some g ∨ w0.heap.size ≤ g) → g < w'.heap.size → w0.heap.size < w'.heap.size → wpList P ops Q rest (a.put o.dst (.slice (some ⟨g, 0, none⟩) nk cap)) w') : wpList P ops Q (o :: rest) a (w0.alloc (.cells row K.T)) := by
  subst hnk
  exact wpList_append_ol hK hc hgd s x ho hs w0 c hrow hb hx (by omega) hB h
theorem OL.low {B' : Nat} (h : OL K enc B w v l) (hb : B' ≤ B) : OL K enc B' w v l := by
  refine ⟨h.1, ?_⟩
  rcases h.2 with hn0 | ⟨g, cap, cur, rfl, hbg, rest⟩
  · exact .inl hn0
  · exact .inr ⟨g, cap, cur, rfl, Nat.le_trans hb hbg, rest⟩
/-- what is written to a list of the call's own leaves all below its base -/
theorem OL.below {w0 w1 w2 : World} (h : OL K enc B w1 v l) (hb : Below w0.heap.size w0 w1) (hB : w0.heap.size ≤ B) (ho : Ot (fun k => v.ownBlock = some k) w1 w2) : Below w0.heap.size w0 w2 :=
  hb.trans (ho.below hb.size fun k e => Nat.le_trans hB (World.ownsRow.lt h k e).1)
end
end Go.Proofs.YtpgfgaloagdogaaDoor
namespace Go.Proofs.YtpgfgaloagdogaaDoor
open Go.RowKit Num Word Txt
attribute [local go_sem] setCell_drewN cell?_ext frozen?_ext shape?_ext setCell_ext lt_1' ne_1' en_1' le_1' lt_2' ne_2' en_2' le_2' lt_3' ne_3' en_3' le_3' lt_4' ne_4' en_4' le_4' lt_5' ne_5' en_5' le_5' lt_6' ne_6' en_6' le_6' lt_7' ne_7' en_7' le_7' lt_8' ne_8' en_8' le_8' lt_9' ne_9' en_9' le_9' lt_10' ne_10' en_10' le_10' lt_11' ne_11' en_11' le_11' lt_12' ne_12' en_12' le_12'

abbrev InV (x : InsD) : Value := InsV x.op x.a x.t x.neg x.h x.l x.s x.day
set_option maxRecDepth 100000 in
set_option maxHeartbeats 4000000 in
theorem docone_any (x : NdD) (w : World) : Calls Tryd.prog 46 #[NdV x] w fun e w' => e = .returned (InV (insN x)) ∧ Below w.heap.size w w' := by
  obtain ⟨op, k, t, neg, c, s, day⟩ := x
  have HC := Lib.hid (fun w => counted_any op w)
  unfold insN
  simp only
  show Calls _ _ #[NodV op k t neg (Word.hi c : Int) (Word.lo c : Int) s day] _ _
  generalize (Word.hi c : Int) = ha
  generalize (Word.lo c : Int) = la
  by_cases hc : Vm.cnt op
  · rw [if_pos hc]
    rw [decide_eq_true hc] at HC
    clear hc
    go_enter Tryd.func46, Tryd.ntmps46
    go_wp2_with (first | (go_at_call 61; ((with_reducible refine (HC.out _).mono ?_); rintro e w' ⟨rfl, rfl⟩)))
    go_returns
    exact ⟨rfl, by (repeat' (first | (with_reducible exact Below.refl _ _) | (with_reducible assumption) | (with_reducible refine Below.alloc ?_ ?_ _) | (with_reducible refine below_drewN ?_ _) | (with_reducible refine below_drew ?_) | (with_reducible refine below_ext ?_ ?_ _ _) | (with_reducible refine Below.setCell ?_ ?_ _) | (simp; done) | (simp; omega) | omega))⟩
  · rw [if_neg hc]
    rw [decide_eq_false hc] at HC
    clear hc
    go_enter Tryd.func46, Tryd.ntmps46
    go_wp2_with (first | (go_at_call 61; ((with_reducible refine (HC.out _).mono ?_); rintro e w' ⟨rfl, rfl⟩)))
    go_returns
    exact ⟨rfl, by (repeat' (first | (with_reducible exact Below.refl _ _) | (with_reducible assumption) | (with_reducible refine Below.alloc ?_ ?_ _) | (with_reducible refine below_drewN ?_ _) | (with_reducible refine below_drew ?_) | (with_reducible refine below_ext ?_ ?_ _ _) | (with_reducible refine Below.setCell ?_ ?_ _) | (simp; done) | (simp; omega) | omega))⟩
end Go.Proofs.YtpgfgaloagdogaaDoor
namespace Go.Proofs.YtpgfgaloagdogaaDoor
open Go.RowKit Num Word Txt
attribute [local go_sem] setCell_drewN cell?_ext frozen?_ext shape?_ext setCell_ext lt_1' ne_1' en_1' le_1' lt_2' ne_2' en_2' le_2' lt_3' ne_3' en_3' le_3' lt_4' ne_4' en_4' le_4' lt_5' ne_5' en_5' le_5' lt_6' ne_6' en_6' le_6' lt_7' ne_7' en_7' le_7' lt_8' ne_8' en_8' le_8' lt_9' ne_9' en_9' le_9' lt_10' ne_10' en_10' le_10' lt_11' ne_11' en_11' le_11' lt_12' ne_12' en_12' le_12'

theorem codClone_any (s : ByteArray) (hs : s.size ≤ 140737488351232) (w : World) :
    Calls Tryd.prog 52 #[.string s] w fun e w' => e = .returned (.string s) ∧ Below w.heap.size w w' := by
  have hC := Tryd.stringslite_Clone s w (by omega)
  have HC := Lib.hid hC
  clear hC
  go_enter Tryd.func52, Tryd.ntmps52
  go_wp2_with (go_at_call 67; ((with_reducible refine (HC.out).mono ?_); rintro e w1 ⟨rfl, hb1⟩; obtain ⟨osA, dA, rfl⟩ := ext_of_below hb1; clear hb1))
  go_ret
  exact ⟨rfl, by (repeat' (first | (with_reducible exact Below.refl _ _) | (with_reducible assumption) | (with_reducible refine Below.alloc ?_ ?_ _) | (with_reducible refine below_drewN ?_ _) | (with_reducible refine below_drew ?_) | (with_reducible refine below_ext ?_ ?_ _ _) | (with_reducible refine Below.setCell ?_ ?_ _) | (simp; done) | (simp; omega) | omega))⟩
set_option maxRecDepth 100000 in
set_option maxHeartbeats 8000000 in
theorem instruction_any (x : NdD) (ht : x.t.size ≤ 1048576) (w : World) : Calls Tryd.prog 35 #[NdV x] w fun e w' => e = .returned (InV (insN x)) ∧ Below w.heap.size w w' := by
  obtain ⟨op, k, t, neg, c, s, day⟩ := x
  simp only at ht
  have HCL := Lib.hid (fun w => codClone_any t (by omega) w)
  clear ht
  unfold insN
  simp only
  show Calls _ _ #[NodV op k t neg (Word.hi c : Int) (Word.lo c : Int) s day] _ _
  generalize (Word.hi c : Int) = ha
  generalize (Word.lo c : Int) = la
  by_cases hc : op = 25 ∨ op = 26 ∨ op = 27 ∨ op = 36
  · rw [if_pos hc]
    rcases hc with rfl | rfl | rfl | rfl
    · go_enter Tryd.func35, Tryd.ntmps35
      go_wp2_with fail
      go_region_held3 (fun w' => w'.cell? ⟨w.heap.size, 0, none⟩ = some (.int .i64 25) ∧ w'.cell? ⟨w.heap.size, 2, none⟩ = some (.string t) ∧ w'.cell? ⟨w.heap.size, 3, none⟩ = some (.bool neg) ∧ w'.cell? ⟨w.heap.size, 4, none⟩ = some (.int .u64 ha) ∧ w'.cell? ⟨w.heap.size, 5, none⟩ = some (.int .u64 la) ∧ w'.cell? ⟨w.heap.size, 6, none⟩ = some (.int .i64 s) ∧ w'.cell? ⟨w.heap.size, 7, none⟩ = some (.int .i64 day)) (simp [go_sem]) (first
      | (go_at_call 52; ((with_reducible refine (HCL.out _).mono ?_); rintro e w1 ⟨rfl, hb1⟩; obtain ⟨osC, dC, rfl⟩ := ext_of_below hb1; clear hb1)))
      all_goals
        go_wp2
        go_returns
        exact ⟨rfl, by (repeat' (first | (with_reducible exact Below.refl _ _) | (with_reducible assumption) | (with_reducible refine Below.alloc ?_ ?_ _) | (with_reducible refine below_drewN ?_ _) | (with_reducible refine below_drew ?_) | (with_reducible refine below_ext ?_ ?_ _ _) | (with_reducible refine Below.setCell ?_ ?_ _) | (simp; done) | (simp; omega) | omega))⟩
    · go_enter Tryd.func35, Tryd.ntmps35
      go_wp2_with fail
      go_region_held3 (fun w' => w'.cell? ⟨w.heap.size, 0, none⟩ = some (.int .i64 26) ∧ w'.cell? ⟨w.heap.size, 2, none⟩ = some (.string t) ∧ w'.cell? ⟨w.heap.size, 3, none⟩ = some (.bool neg) ∧ w'.cell? ⟨w.heap.size, 4, none⟩ = some (.int .u64 ha) ∧ w'.cell? ⟨w.heap.size, 5, none⟩ = some (.int .u64 la) ∧ w'.cell? ⟨w.heap.size, 6, none⟩ = some (.int .i64 s) ∧ w'.cell? ⟨w.heap.size, 7, none⟩ = some (.int .i64 day)) (simp [go_sem]) (first
      | (go_at_call 52; ((with_reducible refine (HCL.out _).mono ?_); rintro e w1 ⟨rfl, hb1⟩; obtain ⟨osC, dC, rfl⟩ := ext_of_below hb1; clear hb1)))
      all_goals
        go_wp2
        go_returns
        exact ⟨rfl, by (repeat' (first | (with_reducible exact Below.refl _ _) | (with_reducible assumption) | (with_reducible refine Below.alloc ?_ ?_ _) | (with_reducible refine below_drewN ?_ _) | (with_reducible refine below_drew ?_) | (with_reducible refine below_ext ?_ ?_ _ _) | (with_reducible refine Below.setCell ?_ ?_ _) | (simp; done) | (simp; omega) | omega))⟩
    · go_enter Tryd.func35, Tryd.ntmps35
      go_wp2_with fail
      go_region_held3 (fun w' => w'.cell? ⟨w.heap.size, 0, none⟩ = some (.int .i64 27) ∧ w'.cell? ⟨w.heap.size, 2, none⟩ = some (.string t) ∧ w'.cell? ⟨w.heap.size, 3, none⟩ = some (.bool neg) ∧ w'.cell? ⟨w.heap.size, 4, none⟩ = some (.int .u64 ha) ∧ w'.cell? ⟨w.heap.size, 5, none⟩ = some (.int .u64 la) ∧ w'.cell? ⟨w.heap.size, 6, none⟩ = some (.int .i64 s) ∧ w'.cell? ⟨w.heap.size, 7, none⟩ = some (.int .i64 day)) (simp [go_sem]) (first
      | (go_at_call 52; ((with_reducible refine (HCL.out _).mono ?_); rintro e w1 ⟨rfl, hb1⟩; obtain ⟨osC, dC, rfl⟩ := ext_of_below hb1; clear hb1)))
      all_goals
        go_wp2
        go_returns
        exact ⟨rfl, by (repeat' (first | (with_reducible exact Below.refl _ _) | (with_reducible assumption) | (with_reducible refine Below.alloc ?_ ?_ _) | (with_reducible refine below_drewN ?_ _) | (with_reducible refine below_drew ?_) | (with_reducible refine below_ext ?_ ?_ _ _) | (with_reducible refine Below.setCell ?_ ?_ _) | (simp; done) | (simp; omega) | omega))⟩
    · go_enter Tryd.func35, Tryd.ntmps35
      go_wp2_with fail
      go_region_held3 (fun w' => w'.cell? ⟨w.heap.size, 0, none⟩ = some (.int .i64 36) ∧ w'.cell? ⟨w.heap.size, 2, none⟩ = some (.string t) ∧ w'.cell? ⟨w.heap.size, 3, none⟩ = some (.bool neg) ∧ w'.cell? ⟨w.heap.size, 4, none⟩ = some (.int .u64 ha) ∧ w'.cell? ⟨w.heap.size, 5, none⟩ = some (.int .u64 la) ∧ w'.cell? ⟨w.heap.size, 6, none⟩ = some (.int .i64 s) ∧ w'.cell? ⟨w.heap.size, 7, none⟩ = some (.int .i64 day)) (simp [go_sem]) (first
      | (go_at_call 52; ((with_reducible refine (HCL.out _).mono ?_); rintro e w1 ⟨rfl, hb1⟩; obtain ⟨osC, dC, rfl⟩ := ext_of_below hb1; clear hb1)))
      all_goals
        go_wp2
        go_returns
        exact ⟨rfl, by (repeat' (first | (with_reducible exact Below.refl _ _) | (with_reducible assumption) | (with_reducible refine Below.alloc ?_ ?_ _) | (with_reducible refine below_drewN ?_ _) | (with_reducible refine below_drew ?_) | (with_reducible refine below_ext ?_ ?_ _ _) | (with_reducible refine Below.setCell ?_ ?_ _) | (simp; done) | (simp; omega) | omega))⟩
  · rw [if_neg hc]
    have q25 : (op == 25) = false := beq_eq_false_iff_ne.2 (by omega)
    have q26 : (op == 26) = false := beq_eq_false_iff_ne.2 (by omega)
    have q27 : (op == 27) = false := beq_eq_false_iff_ne.2 (by omega)
    have q36 : (op == 36) = false := beq_eq_false_iff_ne.2 (by omega)
    clear hc
    go_enter Tryd.func35, Tryd.ntmps35
    go_wp2_with fail
    go_region_held3 (fun w' => w'.cell? ⟨w.heap.size, 0, none⟩ = some (.int .i64 op) ∧ w'.cell? ⟨w.heap.size, 2, none⟩ = some (.string t) ∧ w'.cell? ⟨w.heap.size, 3, none⟩ = some (.bool neg) ∧ w'.cell? ⟨w.heap.size, 4, none⟩ = some (.int .u64 ha) ∧ w'.cell? ⟨w.heap.size, 5, none⟩ = some (.int .u64 la) ∧ w'.cell? ⟨w.heap.size, 6, none⟩ = some (.int .i64 s) ∧ w'.cell? ⟨w.heap.size, 7, none⟩ = some (.int .i64 day)) (simp [go_sem]) (first
      | (go_at_call 52; ((with_reducible refine (HCL.out _).mono ?_); rintro e w1 ⟨rfl, hb1⟩; obtain ⟨osC, dC, rfl⟩ := ext_of_below hb1; clear hb1)))
    all_goals
      go_wp2
      go_returns
      exact ⟨rfl, by (repeat' (first | (with_reducible exact Below.refl _ _) | (with_reducible assumption) | (with_reducible refine Below.alloc ?_ ?_ _) | (with_reducible refine below_drewN ?_ _) | (with_reducible refine below_drew ?_) | (with_reducible refine below_ext ?_ ?_ _ _) | (with_reducible refine Below.setCell ?_ ?_ _) | (simp; done) | (simp; omega) | omega))⟩
end Go.Proofs.YtpgfgaloagdogaaDoor
namespace Go.Proofs.YtpgfgaloagdogaaDoor
open Go.RowKit Num Word Txt
attribute [local go_sem] setCell_drewN cell?_ext frozen?_ext shape?_ext setCell_ext lt_1' ne_1' en_1' le_1' lt_2' ne_2' en_2' le_2' lt_3' ne_3' en_3' le_3' lt_4' ne_4' en_4' le_4' lt_5' ne_5' en_5' le_5' lt_6' ne_6' en_6' le_6' lt_7' ne_7' en_7' le_7' lt_8' ne_8' en_8' le_8' lt_9' ne_9' en_9' le_9' lt_10' ne_10' en_10' le_10' lt_11' ne_11' en_11' le_11' lt_12' ne_12' en_12' le_12'

/-- what the code of a thing is, in memory -/
def OfQ (C : List InsD) (w : World) (e : Ending) (w' : World) : Prop := ∃ v', e = .returned v' ∧ OL isK insE w.heap.size w' v' C ∧ Below w.heap.size w w'
theorem OfQ.get {B k : Nat} {w' : World} {v : Value} {C : List InsD} (h : OL isK insE B w' v C) (hk : C.length = k) (hp : 0 < k) : ∃ g c, v = .slice (some ⟨g, 0, none⟩) k c ∧ B ≤ g ∧ g < w'.heap.size ∧ Hid (∀ w2, Below w'.heap.size w' w2 → ∀ j (h : j < C.length) i u, (insE C[j])[i]? = some u → w2.cell? ⟨g, 0 + j * isK.size + i, none⟩ = some u) := by
  obtain ⟨q, c, rfl, hq, -⟩ := OL.form h
  obtain ⟨g, rfl, h1, h2⟩ := hq (by omega)
  exact ⟨g, c, by rw [hk], h1, h2, Lib.hid fun w2 hb j hj i u hu => by rw [Nat.zero_add, hb.cell (p := ⟨g, _, none⟩) h2]; exact OL.cell isE_cells h j i hj hu⟩
/-- the part a of a node, as the memory has it -/
theorem WPl.part {w : World} {gx cx : Nat} {P : List (List Nat)} (h : WPl w (.slice (some ⟨gx, 0, none⟩) P.length cx) P) {i : Nat} (hi : i < P.length) : gx < w.heap.size ∧ ∃ q c, w.cell? ⟨gx, i, none⟩ = some (.slice q (P.getD i []).length c) ∧ Rd w (.slice q (P.getD i []).length c) (P.getD i []) := by
  obtain ⟨g, c, e, -, h2, h3⟩ := h
  injection e with e1 _ e3
  injection e1 with e1
  injection e1 with e4 _ _
  subst e4
  exact ⟨h2, h3 i hi⟩
theorem stk_few {L : List Nat} : ∀ {ps : List Nat} {a b : Nat}, Chain L a ps b → ps.length ≤ b - a
  | [], _, _, _ => by simp
  | p :: ps, a, b, h => by
    have h1 := stk_few h.2.2
    have h2 := h.2.1
    have h3 := h.2.2.le
    simp only [List.length_cons]; omega
theorem ofF_some {l : List NdD} {P : List (List Nat)} (n i fr : Nat) (h : 0 < n) : 0 < (ofF l P n i fr).length := by
  cases n with
  | zero => omega
  | succ n => exact ofF_pos n i fr
section
variable {l : List NdD} {P : List (List Nat)} {L : List Nat} {w0 : World} {n0 : Nat}
set_option maxRecDepth 100000 in
set_option maxHeartbeats 8000000 in
theorem codof_any (hT : Tr l P L) (hl : l.length ≤ 300) {v x : Value} (hv : RL 8 ndE n0 w0 v l) (hn0 : n0 ≤ w0.heap.size) (hx : WPl w0 x P) : ∀ (n i fr : Nat), i < n → i < l.length → fr + 2 * (i + 1 - L.getD i 0) ≤ 2000 → ∀ w, Below w0.heap.size w0 w →
    Calls Tryd.prog 30 #[v, x, .int .i64 i, .int .i64 fr] w fun e w' => OfQ (ofF l P n i fr) w e w' := by
  obtain ⟨p, c, rfl, h2⟩ := hv
  obtain ⟨gx, cx, rfl, hcx, hgx, hx3⟩ := hx
  have H2 := Lib.hid h2
  have HX3 := Lib.hid hx3
  have HT := Lib.hid hT
  obtain ⟨len, hlen⟩ : ∃ len, len = l.length := ⟨_, rfl⟩
  have HL := Lib.hid hlen
  have hPl := hT.lp
  rw [hPl] at hcx
  rw [hPl, ← hlen]
  rw [← hlen] at hl hcx
  clear h2 hx3 hPl hT
  intro n
  induction n with
  | zero => intro i fr hi; exact absurd hi (Nat.not_lt_zero i)
  | succ n ih =>
    intro i fr hin hil hfr w hbw
    have HIH := Lib.hid ih
    have HBW := Lib.hid hbw
    have hsw := hbw.size
    have hil2 : i < l.length := by rw [← HL.out]; exact hil
    obtain ⟨g, o, rfl, hg, hc⟩ := H2.out (by omega)
    have hgr : g < w.heap.size := by omega
    have hgxr : gx < w.heap.size := by omega
    have hc2 : ∀ j (h : j < l.length) i u, (ndE l[j])[i]? = some u → w.cell? ⟨g, o + j * 8 + i, none⟩ = some u := fun j hj i u hu => by
      rw [hbw.cell (p := ⟨g, _, none⟩) (Nat.lt_of_lt_of_le hg hn0)]; exact hc j hj i u hu
    obtain ⟨oa, ka, ta, na, ca, sa, da, he, x0, x1, x2, x3, x4, x5, x6, x7⟩ := nd_cells hc2 i hil2
    obtain ⟨qp, cp, hpc, hpr⟩ := HX3.out i (by rw [HT.out.lp]; exact hil2)
    have y0 : w.cell? ⟨gx, i, none⟩ = some (.slice qp (P.getD i []).length cp) := by rw [hbw.cell (p := ⟨gx, _, none⟩) hgx]; exact hpc
    have hpr2 := (hpr.later hbw)
    have hnd : ndA l i = ⟨oa, ka, ta, na, ca, sa, da⟩ := (nd_at hil2).trans he
    have hch := HT.out.chain i hil2
    have hmem := hch.mem
    have hlow := HT.out.low hil2
    have HLEN := Lib.hid (ofF_len HT.out)
    have HPOS := Lib.hid (fun p f (h : 0 < n) => ofF_some (l := l) (P := P) n p f h)
    rw [ofF_succ, hnd]
    simp only
    clear hc hc2 hpc hpr hbw ih
    by_cases h21 : oa = 21
    · subst h21
      obtain ⟨a, b, d, e⟩ := HT.out.if3 hil2 (by rw [hnd])
      rw [if_pos rfl, e]
      simp only [List.getD_cons_zero, List.getD_cons_succ]
      rw [e] at hch hmem y0 hpr2
      obtain ⟨-, gp, op_, rfl, hgp, hpj⟩ := RdP.cells hpr2 (by simp)
      have z0 : w.cell? ⟨gp, op_, none⟩ = some (.int .i64 a) := hpj 0 (by simp)
      have z1 : w.cell? ⟨gp, op_ + 1, none⟩ = some (.int .i64 b) := hpj 1 (by simp)
      have z2 : w.cell? ⟨gp, op_ + 2, none⟩ = some (.int .i64 d) := hpj 2 (by simp)
      rw [show [a, b, d].length = 3 from rfl] at y0
      have c1 := hch.1
      have c2 := hch.2.1
      have c3 := hch.2.2.1
      have c4 := hch.2.2.2.1
      have c5 := hch.2.2.2.2.1
      have c6 := hch.2.2.2.2.2.1
      have c7 : d + 1 = i := hch.2.2.2.2.2.2
      obtain ⟨A, hA⟩ : ∃ A, A = ofF l P n a fr := ⟨_, rfl⟩
      obtain ⟨la, hla⟩ : ∃ la, la = A.length := ⟨_, rfl⟩
      obtain ⟨s1, hs1⟩ : ∃ s1, s1 = fr + la := ⟨_, rfl⟩
      obtain ⟨s2, hs2⟩ : ∃ s2, s2 = s1 + 1 := ⟨_, rfl⟩
      obtain ⟨B, hB⟩ : ∃ B, B = ofF l P n b s2 := ⟨_, rfl⟩
      obtain ⟨lb, hlb⟩ : ∃ lb, lb = B.length := ⟨_, rfl⟩
      obtain ⟨s3, hs3⟩ : ∃ s3, s3 = s1 + lb := ⟨_, rfl⟩
      obtain ⟨s4, hs4⟩ : ∃ s4, s4 = s3 + 2 := ⟨_, rfl⟩
      obtain ⟨C, hC⟩ : ∃ C, C = ofF l P n d s4 := ⟨_, rfl⟩
      obtain ⟨lc, hlc⟩ : ∃ lc, lc = C.length := ⟨_, rfl⟩
      obtain ⟨s5, hs5⟩ : ∃ s5, s5 = s3 + lc := ⟨_, rfl⟩
      obtain ⟨s6, hs6⟩ : ∃ s6, s6 = s5 + 2 := ⟨_, rfl⟩
      obtain ⟨t1, ht1⟩ : ∃ t1, t1 = la + 1 := ⟨_, rfl⟩
      obtain ⟨t2, ht2⟩ : ∃ t2, t2 = t1 + lb := ⟨_, rfl⟩
      obtain ⟨t3, ht3⟩ : ∃ t3, t3 = t2 + 1 := ⟨_, rfl⟩
      obtain ⟨t4, ht4⟩ : ∃ t4, t4 = t3 + lc := ⟨_, rfl⟩
      have hla2 : la ≤ 2 * (a + 1 - L.getD a 0) := by rw [hla, hA]; exact HLEN.out n a (by omega) fr
      have hlb2 : lb ≤ 2 * (b + 1 - L.getD b 0) := by rw [hlb, hB]; exact HLEN.out n b (by omega) s2
      have hlc2 : lc ≤ 2 * (d + 1 - L.getD d 0) := by rw [hlc, hC]; exact HLEN.out n d (by omega) s4
      have hlap : 0 < la := by rw [hla, hA]; exact HPOS.out a fr (by omega)
      have hlbp : 0 < lb := by rw [hlb, hB]; exact HPOS.out b s2 (by omega)
      have hlcp : 0 < lc := by rw [hlc, hC]; exact HPOS.out d s4 (by omega)
      have HRES := Lib.hid (show ifF (ofF l P n) fr a b d = [] ++ A ++ [iC 102 (s4 : Nat)] ++ B ++ [iC 101 (s6 : Nat)] ++ C by
        unfold ifF
        rw [← hA, ← hla, show fr + la + 1 = s2 by omega, ← hB, ← hlb, show fr + la + lb + 2 = s4 by omega, ← hC, ← hlc, show fr + la + lb + lc + 2 = s6 by omega, List.nil_append])
      have HCA := Lib.hid (fun w' hb => HIH.out a fr (by omega) (by omega) (by omega) w' hb)
      have HCB := Lib.hid (fun w' hb => HIH.out b s2 (by omega) (by omega) (by omega) w' hb)
      have HCC := Lib.hid (fun w' hb => HIH.out d s4 (by omega) (by omega) (by omega) w' hb)
      rw [← hA] at HCA
      rw [← hB] at HCB
      rw [← hC] at HCC
      have E1 : (fr : Int) + (la : Int) = (s1 : Int) := by omega
      have E2 : (s1 : Int) + 1 = (s2 : Int) := by omega
      have E3 : (s1 : Int) + (lb : Int) = (s3 : Int) := by omega
      have E4 : (s3 : Int) + 2 = (s4 : Int) := by omega
      have E5 : (s3 : Int) + (lc : Int) = (s5 : Int) := by omega
      have E6 : (s5 : Int) + 2 = (s6 : Int) := by omega
      have hs6b : s6 ≤ 2000 := by omega
      have ht4b : t4 ≤ 3000 := by omega
      have HLA := Lib.hid hla.symm
      have HLB := Lib.hid hlb.symm
      have HLC := Lib.hid hlc.symm
      have HN1 := Lib.hid (show ([] : List InsD).length + la = la from Nat.zero_add la)
      have HN2 := Lib.hid (show ([] ++ A).length + 1 = t1 by rw [List.nil_append, ← hla]; omega)
      have HN3 := Lib.hid (show ([] ++ A ++ [iC 102 (s4 : Nat)]).length + lb = t2 by simp only [List.length_append, List.length_cons, List.length_nil, ← hla]; omega)
      have HN4 := Lib.hid (show ([] ++ A ++ [iC 102 (s4 : Nat)] ++ B).length + 1 = t3 by simp only [List.length_append, List.length_cons, List.length_nil, ← hla, ← hlb]; omega)
      have HN5 := Lib.hid (show ([] ++ A ++ [iC 102 (s4 : Nat)] ++ B ++ [iC 101 (s6 : Nat)]).length + lc = t4 by simp only [List.length_append, List.length_cons, List.length_nil, ← hla, ← hlb]; omega)
      have hlam : la ≤ 3000 := by omega
      have ht1m : t1 ≤ 3000 := by omega
      have ht2m : t2 ≤ 3000 := by omega
      have ht3m : t3 ≤ 3000 := by omega
      have hs2b : s2 ≤ 2000 := by omega
      have hs4b : s4 ≤ 2000 := by omega
      rw [HRES.out]
      clear hlen hs1 hs2 hs3 hs4 hs5 hs6 ht1 ht2 ht3 ht4
      clear hA hB hC hla hlb hlc HRES HIH HLEN HPOS hpj hpr2 e he hnd hch hmem hla2 hlb2 hlc2 c1 c2 c3 c4 c5 c6 c7 hfr hlow
      go_enter Tryd.func30, Tryd.ntmps30
      go_wp2_with (first
        | (go_at_call 30; (with_reducible refine (HCA.out _ HBW.out).mono ?_); rintro e w1 ⟨v1, rfl, ho1, hb1⟩; obtain ⟨g1, cp1, rfl, hg1, hg1w, HA1⟩ := OfQ.get ho1 HLA.out hlap; have z1a := (hb1.cell (p := ⟨gp, _, none⟩) hgp).trans z1; have z2a := (hb1.cell (p := ⟨gp, _, none⟩) hgp).trans z2; have hgp1 := Nat.lt_of_lt_of_le hgp hb1.size; have HB1 := Lib.hid hb1; have HW1 := Lib.hid (HBW.out.trans (hb1.mono hsw)); clear ho1 hb1 z0 z1 z2)
        | (go_at_call 30; (with_reducible refine (HCB.out _ HW1.out).mono ?_); rintro e w2 ⟨v2, rfl, ho2, hb2⟩; obtain ⟨g2, cp2, rfl, hg2, hg2w, HA2⟩ := OfQ.get ho2 HLB.out hlbp; have z2b := (hb2.cell (p := ⟨gp, _, none⟩) hgp1).trans z2a; have HB2 := Lib.hid hb2; have HW2 := Lib.hid (HW1.out.trans (hb2.mono HW1.out.size)); clear ho2 hb2 z1a z2a)
        | (go_at_call 30; (with_reducible refine (HCC.out _ HW2.out).mono ?_); rintro e w3 ⟨v3, rfl, ho3, hb3⟩; obtain ⟨g3, cp3, rfl, hg3, hg3w, HA3⟩ := OfQ.get ho3 HLC.out hlcp; have HB3 := Lib.hid hb3; have HB13 := Lib.hid (HB2.out.trans (hb3.mono HB2.out.size)); have HB30 := Lib.hid (HB1.out.trans ((HB2.out.trans (hb3.mono HB2.out.size)).mono HB1.out.size)); clear ho3 hb3 z2b)
        | (at_builtin; refine append_list isK_ok isE_cells rfl _ _ rfl rfl _ (OL.lit0 isK insE (Nat.le_refl w3.heap.size)) HLA.out HN1.out rfl (HA1.out _ (HB13.out.alloc HB13.out.size _)) hlap (by omega) (by simp) ?_; intro g4 cap4 w4 hob hoth hat hg4 hsz4; have HB4 := Lib.hid (OL.below (w0 := w3) (OL.lit0 isK insE (Nat.le_refl w3.heap.size)) ((Below.refl w3.heap.size w3).alloc (Nat.le_refl _) _) (Nat.le_refl _) hoth); have HO4 := Lib.hid hob; clear hob hoth hat hg4 hsz4)
        | (at_builtin; refine append_elem isK_ok isE_cells rfl _ _ rfl rfl _ (iC 102 (s4 : Nat)) rfl HO4.out HN2.out (by simp [Act.eval]) (by omega) (HB4.out.size) ?_; intro g5 cap5 w5 hob hoth hat hg5 hsz5; have HB5 := Lib.hid (OL.below HO4.out HB4.out (Nat.le_refl _) hoth); have HO5 := Lib.hid hob; clear hob hoth hat hg5 hsz5)
        | (at_builtin; refine append_list isK_ok isE_cells rfl _ _ rfl rfl _ HO5.out HLB.out HN3.out rfl (HA2.out _ (HB3.out.trans (HB5.out.mono HB3.out.size))) hlbp (by omega) (HB5.out.size) ?_; intro g6 cap6 w6 hob hoth hat hg6 hsz6; have HB6 := Lib.hid (OL.below HO5.out HB5.out (Nat.le_refl _) hoth); have HO6 := Lib.hid hob; clear hob hoth hat hg6 hsz6)
        | (at_builtin; refine append_elem isK_ok isE_cells rfl _ _ rfl rfl _ (iC 101 (s6 : Nat)) rfl HO6.out HN4.out (by simp [Act.eval]) (by omega) (HB6.out.size) ?_; intro g7 cap7 w7 hob hoth hat hg7 hsz7; have HB7 := Lib.hid (OL.below HO6.out HB6.out (Nat.le_refl _) hoth); have HO7 := Lib.hid hob; clear hob hoth hat hg7 hsz7)
        | (at_builtin; refine append_list isK_ok isE_cells rfl _ _ rfl rfl _ HO7.out HLC.out HN5.out rfl (HA3.out _ HB7.out) hlcp (by omega) (HB7.out.size) ?_; intro g8 cap8 w8 hob hoth hat hg8 hsz8; have HB8 := Lib.hid (OL.below HO7.out HB7.out (Nat.le_refl _) hoth); have HO8 := Lib.hid hob; clear hob hoth hat hg8 hsz8))
      go_ret
      exact ⟨_, rfl, OL.low HO8.out HB30.out.size, HB30.out.trans (HB8.out.mono HB30.out.size)⟩
    · rw [if_neg h21]
      have q21 : (oa == 21) = false := beq_eq_false_iff_ne.2 h21
      obtain ⟨ps, hps⟩ : ∃ ps, ps = P.getD i [] := ⟨_, rfl⟩
      obtain ⟨np, hnp⟩ : ∃ np, np = ps.length := ⟨_, rfl⟩
      have hnp300 : np ≤ 300 := by
        have h1 := (HT.out.len hil2).1
        have h2 := stk_few hch
        rw [hnp, hps]; omega
      rw [← hps] at y0 hpr2 hch hmem ⊢
      rw [← hnp] at y0 hpr2
      have HNP := Lib.hid hnp
      have HPR := Lib.hid hpr2
      have HCH := Lib.hid hch
      have HMEM := Lib.hid hmem
      obtain ⟨f, hf⟩ : ∃ f, f = ofF l P n := ⟨_, rfl⟩
      have HLN := Lib.hid (show ∀ p ∈ ps, ∀ fr, (f p fr).length ≤ 2 * (p + 1 - L.getD p 0) from fun p hp => by rw [hf]; exact HLEN.out n p (by have := hmem p hp; omega))
      have HPN := Lib.hid (show ∀ p ∈ ps, ∀ fr, 0 < (f p fr).length from fun p hp fr => by rw [hf]; exact HPOS.out p fr (by have := hmem p hp; omega))
      have HCF := Lib.hid (show ∀ p ∈ ps, ∀ fr, fr + 2 * (p + 1 - L.getD p 0) ≤ 2000 → ∀ w, Below w0.heap.size w0 w → Calls Tryd.prog 30 #[.slice (some ⟨g, o, none⟩) len c, .slice (some ⟨gx, 0, none⟩) len cx, .int .i64 p, .int .i64 fr] w fun e w' => OfQ (f p fr) w e w' from fun p hp fr h1 w hw => by
        rw [hf]
        have := hmem p hp
        exact HIH.out p fr (by omega) (by omega) h1 w hw)
      rw [← hf]
      obtain ⟨lw, hlw⟩ : ∃ lw, lw = L.getD i 0 := ⟨_, rfl⟩
      rw [← hlw] at hfr hlow
      have HLW := Lib.hid hlw
      obtain ⟨R, hR⟩ : ∃ R, R = rwF f oa fr 0 ps [] := ⟨_, rfl⟩
      have HR0 := Lib.hid (show rwF f oa fr 0 (ps.drop 0) [] = R from hR.symm)
      have HC0 := Lib.hid (show ∃ a0, Chain L a0 (ps.drop 0) i ∧ lw ≤ a0 ∧ ([] : List InsD).length ≤ 2 * (a0 - lw) + (if oa = 23 ∧ 0 < 0 then 1 else 0) from ⟨L.getD i 0, hch, by omega, by simp⟩)
      have HNIL := Lib.hid (OL.nil isK insE w.heap.size w)
      have HREF := Lib.hid (Below.refl w.heap.size w)
      obtain ⟨I, hI⟩ : ∃ I, I = insN ⟨oa, ka, ta, na, ca, sa, da⟩ := ⟨_, rfl⟩
      have HDO := Lib.hid (show ∀ w, Calls Tryd.prog 46 #[NodV oa ka ta na (Word.hi ca : Int) (Word.lo ca : Int) sa da] w fun e w' => e = .returned (InV I) ∧ Below w.heap.size w w' from fun w => hI ▸ docone_any ⟨oa, ka, ta, na, ca, sa, da⟩ w)
      obtain ⟨J, hJ⟩ : ∃ J, J = if oa = 23 then iC 104 0 else I := ⟨_, rfl⟩
      have HJ := Lib.hid hJ
      rw [← hR, ← hI, ← hJ]
      generalize (Word.hi ca : Int) = ha at *
      generalize (Word.lo ca : Int) = la at *
      clear hlen hf hR hI hJ hlw hnp hps hch hmem hpr2 HIH HLEN HPOS he hnd h21
      go_enter Tryd.func30, Tryd.ntmps30
      go_wp2
      go_loopw [14, 15] (fun x z wr => ∃ (k : Nat) (out : List InsD), z = .int .i64 k ∧ k ≤ np ∧ Hid (OL isK insE w.heap.size wr x out) ∧ Hid (Below w.heap.size w wr) ∧ Hid (rwF f oa fr k (ps.drop k) out = R) ∧ Hid (∃ a0, Chain L a0 (ps.drop k) i ∧ lw ≤ a0 ∧ out.length ≤ 2 * (a0 - lw) + (if oa = 23 ∧ 0 < k then 1 else 0))) (fun _ z _ => np - (intOf z).toNat)
      case atStart => exact ⟨0, [], rfl, Nat.zero_le _, HNIL, HREF, HR0, HC0⟩
      case round =>
        obtain ⟨k, out, rfl, hkn, hol, hbe, hrw, hcn⟩ := hrel
        clear HR0 HC0 HNIL HREF
        obtain ⟨q, cpx, hvx, hq, hcpx⟩ := OL.form hol.out
        obtain ⟨no, hno⟩ : ∃ no, no = out.length := ⟨_, rfl⟩
        rw [← hno] at hvx hq hcpx
        obtain rfl : u14 = .slice q no cpx := hvx
        have HOL := Lib.hid hol.out
        have HBR := Lib.hid hbe.out
        have hswr := hbe.out.size
        have HNO := Lib.hid hno.symm
        have xc := fun j => HBR.out.cell (p := ⟨g, j, none⟩) hgr
        by_cases hkl : k < np
        · have hkn1 : (k : Int) < (np : Int) := by omega
          have hkp : k < ps.length := by rw [← HNP.out]; exact hkl
          obtain ⟨-, gp, op_, rfl, hgp, hpj⟩ := RdP.cells HPR.out (show 0 < ps.length by omega)
          obtain ⟨pk, hpk⟩ : ∃ pk, pk = ps[k] := ⟨_, rfl⟩
          have z0 : wr.cell? ⟨gp, op_ + k, none⟩ = some (.int .i64 pk) := by rw [HBR.out.cell (p := ⟨gp, _, none⟩) hgp, hpk]; exact hpj k hkp
          have hdr : ps.drop k = pk :: ps.drop (k + 1) := by rw [hpk]; exact List.drop_eq_getElem_cons hkp
          obtain ⟨a0, hc0, hla0, hol0⟩ := hcn.out
          rw [hdr] at hc0
          have c1 := hc0.1
          have c2 := hc0.2.1
          have c3 := hc0.2.2.le
          have hpin : pk ∈ ps := hpk ▸ List.getElem_mem hkp
          obtain ⟨s1, hs1⟩ : ∃ s1, s1 = fr + no := ⟨_, rfl⟩
          have E1 : (fr : Int) + (no : Int) = (s1 : Int) := by omega
          obtain ⟨D, hD⟩ : ∃ D, D = f pk s1 := ⟨_, rfl⟩
          obtain ⟨ld, hld⟩ : ∃ ld, ld = D.length := ⟨_, rfl⟩
          have hldp : 0 < ld := by rw [hld, hD]; exact HPN.out pk hpin s1
          have hld2 : ld ≤ 2 * (pk + 1 - L.getD pk 0) := by rw [hld, hD]; exact HLN.out pk hpin s1
          have hno2 : no ≤ 2 * (a0 - lw) + 1 := by
            rw [hno]; split at hol0 <;> omega
          have HCD := Lib.hid (HCF.out pk hpin s1 (by omega))
          rw [← hD] at HCD
          obtain ⟨t1, ht1⟩ : ∃ t1, t1 = no + ld := ⟨_, rfl⟩
          have HN1 := Lib.hid (show out.length + ld = t1 by rw [← hno]; exact ht1.symm)
          have HN2 := Lib.hid (show (out ++ D).length + 1 = t1 + 1 by rw [List.length_append, ← hno, ← hld, ht1])
          have HLD := Lib.hid hld.symm
          have HRW := Lib.hid (show rwF f oa fr (k + 1) (ps.drop (k + 1)) (if oa = 23 ∧ k = 0 then out ++ D ++ [iC 103 0] else out ++ D) = R by
            rw [← hrw.out, hdr]
            show _ = rwF f oa fr (k + 1) _ (if oa = 23 ∧ k = 0 then out ++ f pk (fr + out.length) ++ [iC 103 0] else out ++ f pk (fr + out.length))
            rw [← hno, ← hs1, ← hD])
          have HCN := Lib.hid (show ∃ a1, Chain L a1 (ps.drop (k + 1)) i ∧ lw ≤ a1 ∧ (if oa = 23 ∧ k = 0 then out ++ D ++ [iC 103 0] else out ++ D).length ≤ 2 * (a1 - lw) + (if oa = 23 ∧ 0 < k + 1 then 1 else 0) from by
            refine ⟨pk + 1, hc0.2.2, by omega, ?_⟩
            by_cases h23 : oa = 23
            · by_cases hk0 : k = 0
              · rw [if_neg (by omega), ← hno] at hol0
                rw [if_pos ⟨h23, hk0⟩, if_pos ⟨h23, by omega⟩]
                simp only [List.length_append, List.length_cons, List.length_nil, ← hno, ← hld]; omega
              · rw [if_pos ⟨h23, by omega⟩, ← hno] at hol0
                rw [if_neg (by omega), if_pos ⟨h23, by omega⟩]
                simp only [List.length_append, ← hno, ← hld]; omega
            · rw [if_neg (by omega), ← hno] at hol0
              rw [if_neg (by omega), if_neg (by omega)]
              simp only [List.length_append, ← hno, ← hld]; omega)
          have ht1m : t1 ≤ 3000 := by omega
          have hs1m : s1 ≤ 3000 := by omega
          have x0r := (xc _).trans x0
          clear hno hs1 hD hld hpk hdr hrw hcn hc0 c1 c2 c3 hol0 hla0 hno2 hld2 ht1 hol hbe hpj hkp xc hq hcpx
          by_cases h23 : oa = 23
          · subst h23
            by_cases hk0 : k = 0
            · subst hk0
              rw [if_pos ⟨rfl, rfl⟩] at HRW HCN
              rw [Nat.add_zero] at z0
              go_wp2_with (first
              | (go_at_call 30; (with_reducible refine (HCD.out _ (HBW.out.trans (HBR.out.mono hsw))).mono ?_); rintro e w1 ⟨v1, rfl, ho1, hb1⟩; obtain ⟨g1, cp1, rfl, hg1, hg1w, HD1⟩ := OfQ.get ho1 HLD.out hldp; have HO1 := Lib.hid (OL.new HOL.out hb1); have HB1 := Lib.hid (HBR.out.trans (hb1.mono hswr)); clear ho1 hb1)
              | (at_builtin; refine append_list isK_ok isE_cells rfl _ _ rfl rfl _ HO1.out HLD.out HN1.out rfl (HD1.out _ (Below.refl _ _)) hldp (by omega) (HB1.out.size) ?_; intro g2 cap2 w2 hob hoth hat hg2 hsz2; have HB2 := Lib.hid (OL.below HO1.out HB1.out (Nat.le_refl _) hoth); have HO2 := Lib.hid hob; have x02 := (HB2.out.cell (p := ⟨g, _, none⟩) hgr).trans x0; clear hob hoth hat hg2 hsz2)
              | (at_builtin; refine append_elem isK_ok isE_cells rfl _ _ rfl rfl _ (iC 103 0) rfl HO2.out HN2.out (by simp [Act.eval]) (by omega) (HB2.out.size) ?_; intro g3 cap3 w3 hob hoth hat hg3 hsz3; have HB3 := Lib.hid (OL.below HO2.out HB2.out (Nat.le_refl _) hoth); have HO3 := Lib.hid hob; clear hob hoth hat hg3 hsz3))
              refine ⟨⟨0 + 1, _, rfl, by omega, HO3, HB3, HRW, Lib.hid (by simpa using HCN.out)⟩, by simp [intOf]; omega⟩
            · have qk : ((k : Int) == 0) = false := beq_eq_false_iff_ne.2 (by omega)
              rw [if_neg (fun h => hk0 h.2)] at HRW HCN
              go_wp2_with (first
              | (go_at_call 30; (with_reducible refine (HCD.out _ (HBW.out.trans (HBR.out.mono hsw))).mono ?_); rintro e w1 ⟨v1, rfl, ho1, hb1⟩; obtain ⟨g1, cp1, rfl, hg1, hg1w, HD1⟩ := OfQ.get ho1 HLD.out hldp; have HO1 := Lib.hid (OL.new HOL.out hb1); have HB1 := Lib.hid (HBR.out.trans (hb1.mono hswr)); clear ho1 hb1)
              | (at_builtin; refine append_list isK_ok isE_cells rfl _ _ rfl rfl _ HO1.out HLD.out HN1.out rfl (HD1.out _ (Below.refl _ _)) hldp (by omega) (HB1.out.size) ?_; intro g2 cap2 w2 hob hoth hat hg2 hsz2; have HB2 := Lib.hid (OL.below HO1.out HB1.out (Nat.le_refl _) hoth); have HO2 := Lib.hid hob; have x02 := (HB2.out.cell (p := ⟨g, _, none⟩) hgr).trans x0; clear hob hoth hat hg2 hsz2))
              refine ⟨⟨k + 1, _, rfl, by omega, HO2, HB2, HRW, Lib.hid (by simpa using HCN.out)⟩, by simp [intOf]; omega⟩
          · have q23 : (oa == 23) = false := beq_eq_false_iff_ne.2 h23
            rw [if_neg (fun h => h23 h.1)] at HRW HCN
            go_wp2_with (first
              | (go_at_call 30; (with_reducible refine (HCD.out _ (HBW.out.trans (HBR.out.mono hsw))).mono ?_); rintro e w1 ⟨v1, rfl, ho1, hb1⟩; obtain ⟨g1, cp1, rfl, hg1, hg1w, HD1⟩ := OfQ.get ho1 HLD.out hldp; have HO1 := Lib.hid (OL.new HOL.out hb1); have HB1 := Lib.hid (HBR.out.trans (hb1.mono hswr)); clear ho1 hb1)
              | (at_builtin; refine append_list isK_ok isE_cells rfl _ _ rfl rfl _ HO1.out HLD.out HN1.out rfl (HD1.out _ (Below.refl _ _)) hldp (by omega) (HB1.out.size) ?_; intro g2 cap2 w2 hob hoth hat hg2 hsz2; have HB2 := Lib.hid (OL.below HO1.out HB1.out (Nat.le_refl _) hoth); have HO2 := Lib.hid hob; have x02 := (HB2.out.cell (p := ⟨g, _, none⟩) hgr).trans x0; clear hob hoth hat hg2 hsz2))
            refine ⟨⟨k + 1, _, rfl, by omega, HO2, HB2, HRW, HCN⟩, by simp [intOf]; omega⟩
        · have hkn1 : ¬ (k : Int) < (np : Int) := by omega
          have hRo : R = out := by rw [← hrw.out, List.drop_eq_nil_of_le (by rw [← HNP.out]; omega)]; rfl
          have hno2 : no ≤ 2000 := by
            obtain ⟨a0, hc0, hla0, hol0⟩ := hcn.out
            have := hc0.le
            rw [hno]; split at hol0 <;> omega
          subst hRo
          have HN2 := Lib.hid (show R.length + 1 = no + 1 by rw [← hno])
          have x0r := (xc _).trans x0
          have x1r := (xc _).trans x1
          have x2r := (xc _).trans x2
          have x3r := (xc _).trans x3
          have x4r := (xc _).trans x4
          have x5r := (xc _).trans x5
          have x6r := (xc _).trans x6
          have x7r := (xc _).trans x7
          clear hno hrw hcn hol hbe xc hq hcpx
          by_cases h23 : oa = 23
          · subst h23
            have HJ2 := Lib.hid (show J = iC 104 0 by rw [HJ.out, if_pos rfl])
            go_wp2_with (at_builtin; refine append_elem isK_ok isE_cells rfl _ _ rfl rfl _ (iC 104 0) rfl HOL.out HN2.out (by simp [Act.eval]) (by omega) (HBR.out.size) ?_; intro g3 cap3 w3 hob hoth hat hg3 hsz3; have HB3 := Lib.hid (OL.below HOL.out HBR.out (Nat.le_refl _) hoth); have HO3 := Lib.hid hob; clear hob hoth hat hg3 hsz3)
            go_ret
            exact ⟨_, rfl, by rw [HJ2.out]; exact HO3.out, HB3.out⟩
          · have q23 : (oa == 23) = false := beq_eq_false_iff_ne.2 h23
            have HJ2 := Lib.hid (show J = I by rw [HJ.out, if_neg h23])
            go_wp2_with (first
              | (go_at_call 46; (with_reducible refine (HDO.out _).mono ?_); rintro e w1 ⟨rfl, hb1⟩; have HO1 := Lib.hid (OL.new HOL.out hb1); have HB1 := Lib.hid (HBR.out.trans (hb1.mono hswr)); clear hb1)
              | (at_builtin; refine append_elem isK_ok isE_cells rfl _ _ rfl rfl _ I rfl HO1.out HN2.out (by simp [Act.eval]) (by omega) (HB1.out.size) ?_; intro g3 cap3 w3 hob hoth hat hg3 hsz3; have HB3 := Lib.hid (OL.below HO1.out HB1.out (Nat.le_refl _) hoth); have HO3 := Lib.hid hob; clear hob hoth hat hg3 hsz3))
            go_ret
            exact ⟨_, rfl, by rw [HJ2.out]; exact HO3.out, HB3.out⟩
end
end Go.Proofs.YtpgfgaloagdogaaDoor
