/-
  Rows of a call's own; needs in form; the document's Order.
-/
import Derived.Test.YtdgdeognahmpmaaGrN
import Derived.Test.YtdgdeognahmpmaaGrK
import Derived.Deep.OwnRows
namespace Go.Proofs.Ytdgdeognahmpmaa
open Go.RowKit
open Gk (okN okN_iff nxt nxt_some nxt_none ord ord_none ord_some Dn nodup_le)
attribute [local go_sem] setCell_drewN cell?_ext frozen?_ext shape?_ext setCell_ext lt_1' ne_1' en_1' le_1' lt_2' ne_2' en_2' le_2' lt_3' ne_3' en_3' le_3' lt_4' ne_4' en_4' le_4' lt_5' ne_5' en_5' le_5' lt_6' ne_6' en_6' le_6' lt_7' ne_7' en_7' le_7' lt_8' ne_8' en_8' le_8' lt_9' ne_9' en_9' le_9' lt_10' ne_10' en_10' le_10' lt_11' ne_11' en_11' le_11' lt_12' ne_12' en_12' le_12'

/-- a row of the call's own -/
structure VRow (w : World) (g n : Nat) (f : Nat → Value) : Prop where
  lt : g < w.heap.size
  cell : ∀ j, j < n → w.cell? ⟨g, j, none⟩ = some (f j)
  free : ∀ j, w.frozen? ⟨g, j, none⟩ = false
def updV (f : Nat → Value) (k : Nat) (v : Value) : Nat → Value := fun j => if j = k then v else f j
theorem VRow.store {w : World} {g n : Nat} {f : Nat → Value} (h : VRow w g n f) (k : Nat) (v : Value) (hk : k < n) : VRow (w.setCell ⟨g, k, none⟩ v) g n (updV f k v) := by
  refine ⟨by rw [World.size_setCell]; exact h.lt, fun j hj => ?_, fun j => by rw [World.frozen?_setCell]; exact h.free j⟩
  by_cases e : j = k
  · subst e
    rw [World.cell?_setCell_same w _ _ (h.cell j hj)]
    simp [updV]
  · rw [World.cell?_setCell_other w _ _ _ (by intro e2; injection e2 with _ e3 _; exact e e3.symm), h.cell j hj]
    simp [updV, e]
theorem VRow.congr {w : World} {g n : Nat} {f f' : Nat → Value} (h : VRow w g n f) (he : ∀ j, j < n → f j = f' j) : VRow w g n f' :=
  ⟨h.lt, fun j hj => by rw [h.cell j hj, he j hj], h.free⟩
theorem VRow.kept {w w' : World} {g n : Nat} {f : Nat → Value} {S : Nat → Prop} (h : VRow w g n f) (ho : Oth S w w') (hg : ¬ S g) : VRow w' g n f :=
  ⟨Nat.lt_of_lt_of_le h.lt ho.size, fun j hj => by rw [World.cell?_of_block (a := ⟨g, j, none⟩) (ho.block g h.lt hg)]; exact h.cell j hj, fun j => by rw [World.frozen?_of_block (a := ⟨g, j, none⟩) (ho.block g h.lt hg)]; exact h.free j⟩
theorem VRow.drew {w : World} {g n : Nat} {f : Nat → Value} (h : VRow w g n f) (d : Nat) : VRow (w.drewN d) g n f := ⟨h.lt, h.cell, h.free⟩
theorem VRow.made (w : World) (t : TypeId) (z : Value) (n : Nat) : VRow (w.alloc (.cells (madeCells #[z] n) t)) w.heap.size n (fun _ => z) := by
  have h1 : (w.alloc (.cells (madeCells #[z] n) t)).heap[w.heap.size]? = some (.cells (madeCells #[z] n) t) := by
    show (w.heap.push _)[w.heap.size]? = _
    simp
  refine ⟨by rw [World.size_alloc]; omega, fun j hj => ?_, fun j => ?_⟩
  · rw [World.cell?_alloc_at _ _ _ _ rfl]
    simp [madeCells, hj, Nat.mod_one]
  · unfold World.frozen?
    simp only
    rw [h1]
    simp
theorem Oth.alloc {S : Nat → Prop} {a b : World} (h : Oth S a b) (o : Obj) : Oth S a (b.alloc o) :=
  h.trans ⟨rfl, rfl, rfl, by simp, fun k hk _ => heap_alloc_old b o hk⟩
theorem infoBoolG : (Try.prog.info? 4).map (fun i => (i.zero, i.size, i.bytes)) = some (some (.bool false), 1, 1) := by kernel_rfl
theorem infoSlG : (Try.prog.info? 24).map (fun i => (i.zero, i.size, i.bytes)) = some (some (.slice none 0 0), 1, 24) := by kernel_rfl
theorem gmake_int (n : Nat) (hn : n ≤ 1000000) : ∀ w, (Instr.makeSlice 24 (.int .i64 (n : Int)) (.int .i64 (n : Int))).run Try.prog w = .ok (.slice (some ⟨w.heap.size, 0, none⟩) n n) (w.alloc (.cells (madeCells #[.int .i64 0] n) 3)) :=
  fun w => run_make_row' 24 3 (.int .i64 0) 8 Try.underlying24 infoIntG rfl .i64 .i64 n (by omega) (by omega) w
theorem gmake_bool (n : Nat) (hn : n ≤ 1000000) : ∀ w, (Instr.makeSlice 32 (.int .i64 (n : Int)) (.int .i64 (n : Int))).run Try.prog w = .ok (.slice (some ⟨w.heap.size, 0, none⟩) n n) (w.alloc (.cells (madeCells #[.bool false] n) 4)) :=
  fun w => run_make_row' 32 4 (.bool false) 1 Try.underlying32 infoBoolG rfl .i64 .i64 n (by omega) (by omega) w
theorem gmake_sl (n : Nat) (hn : n ≤ 1000000) : ∀ w, (Instr.makeSlice 22 (.int .i64 (n : Int)) (.int .i64 (n : Int))).run Try.prog w = .ok (.slice (some ⟨w.heap.size, 0, none⟩) n n) (w.alloc (.cells (madeCells #[.slice none 0 0] n) 24)) :=
  fun w => run_make_row' 22 24 (.slice none 0 0) 24 Try.underlying22 infoSlG rfl .i64 .i64 n (by omega) (by omega) w
/-- a slice of ints of the call's own, to be appended to -/
abbrev OB (B : Nat) (w : World) (v : Value) (l : List Nat) : Prop := w.ownsRow B 3 1 v l.length (l.map iv)
theorem OB.kept {B : Nat} {w w' : World} {v : Value} {l : List Nat} {S : Nat → Prop} (h : OB B w v l) (ho : Oth S w w') (hn : ∀ k, v.ownBlock = some k → ¬ S k) : OB B w' v l := by
  refine ⟨h.1, ?_⟩
  rcases h.2 with hn0 | ⟨g, cap, cur, rfl, hb, hgg, rest⟩
  · exact .inl hn0
  · exact .inr ⟨g, cap, cur, rfl, hb, by rw [ho.block g (Array.getElem?_eq_some_iff.1 hgg).1 (hn g rfl)]; exact hgg, rest⟩
theorem OB.drew {B : Nat} {w : World} {v : Value} {l : List Nat} (h : OB B w v l) (d : Nat) : OB B (w.drewN d) v l := h
theorem OB.form {B : Nat} {w : World} {v : Value} {l : List Nat} (h : OB B w v l) : ∃ q c, v = .slice q l.length c := by
  rcases h.2 with ⟨rfl, h0⟩ | ⟨g, cap, cur, rfl, _⟩
  · exact ⟨none, 0, by rw [h0]⟩
  · exact ⟨_, _, rfl⟩
theorem grown_oth {w w1 : World} {A : Obj} {r : Option Nat} (hg : (w.alloc A).grownBy w1 r) : Oth (fun k => r = some k) w w1 := by
  have hs : w.heap.size ≤ (w.alloc A).heap.size := by simp
  refine ⟨hg.os, hg.tape, hg.output, Nat.le_trans hs hg.size, fun k hk hne => ?_⟩
  rw [hg.block k (Nat.lt_of_lt_of_le hk hs) (fun e => hne e.symm)]
  exact heap_alloc_old w A hk
theorem append_ob {ops : Array Oper} {rest : List Oper} {o : Oper} {a : Act} {Q : Exit → Act → World → Prop} (hgd : o.guard = none) (s x : Operand)
    (ho : o.op = .call { callee := .builtin .append, args := #[s, x], argTypes := #[24, 24] })
    {B : Nat} {v : Value} {l : List Nat} (hs : a.eval s = v) (w0 : World) (c : Nat) {z : Int} (hz : z = (c : Int)) (hb : OB B w0 v l)
    (hx : a.eval x = .slice (some ⟨w0.heap.size, 0, none⟩) 1 1) (hlen : l.length ≤ 1000000) (hB : B ≤ w0.heap.size)
    (h : ∀ g cap w', OB B w' (.slice (some ⟨g, 0, none⟩) (l.length + 1) cap) (l ++ [c]) → Oth (fun k => v.ownBlock = some k) w0 w' → (v.ownBlock = some g ∨ w0.heap.size ≤ g) → g < w'.heap.size → wpList Try.prog ops Q rest (a.put o.dst (.slice (some ⟨g, 0, none⟩) (l.length + 1) cap)) w') : wpList Try.prog ops Q (o :: rest) a (w0.alloc (.cells #[.int .i64 z] 3)) := by
  subst hz
  obtain ⟨i0, hi, hz0, hz1, hz2⟩ := info_parts infoIntG
  refine wpList_append_lies _ hgd s x 24 ho B 3 i0 (.int .i64 0) 1 8 Try.underlying24 hi hz0 hz1 hz2 rfl (by decide) v l.length (l.map iv) hs (hb.alloc _) ⟨w0.heap.size, 0, none⟩ 1 1 [iv c] hx rfl (World.news_of_block (cs := #[iv c]) (t := 3) (fr := (0, 0)) (one_blk w0 _)) (by simp [Value.oneCell']) (by omega) (by unfold maxLen; omega) (by omega) (by simp; omega) (w0.heap.size + 1) (by simp) ?_
  intro g cap w' hown hgrow hat hlt
  refine h g cap w' ⟨by simp, ?_⟩ (grown_oth hgrow) (hat.imp id (fun e => by omega)) hlt
  have h2 := hown.2
  rw [List.length_append, List.map_append]
  exact h2
/-- a slice of numbers that is read -/
def SRd (n : Nat) (w : World) (v : Value) (l : List Nat) : Prop := ∃ p c, v = .slice p l.length c ∧ (0 < l.length → ∃ g o, p = some ⟨g, o, none⟩ ∧ g < n ∧ ∀ j (h : j < l.length), w.cell? ⟨g, o + j, none⟩ = some (iv l[j]))
theorem SRd.nil (n : Nat) (w : World) : SRd n w (.slice none 0 0) [] := ⟨none, 0, rfl, fun h => absurd h (Nat.lt_irrefl 0)⟩
theorem SRd.keep {n : Nat} {w w' : World} {v : Value} {l : List Nat} (h : SRd n w v l) (hb : Below n w w') : SRd n w' v l := by
  obtain ⟨p, c, rfl, h2⟩ := h
  refine ⟨p, c, rfl, fun h0 => ?_⟩
  obtain ⟨g, o, hp, hg, hc⟩ := h2 h0
  exact ⟨g, o, hp, hg, fun j hj => by rw [hb.cell (p := ⟨g, o + j, none⟩) hg]; exact hc j hj⟩
theorem SRd.more {n m : Nat} {w : World} {v : Value} {l : List Nat} (h : SRd n w v l) (hm : n ≤ m) : SRd m w v l := by
  obtain ⟨p, c, rfl, h2⟩ := h
  refine ⟨p, c, rfl, fun h0 => ?_⟩
  obtain ⟨g, o, hp, hg, hc⟩ := h2 h0
  exact ⟨g, o, hp, Nat.lt_of_lt_of_le hg hm, hc⟩
theorem OB.srd {B : Nat} {w : World} {v : Value} {l : List Nat} (h : OB B w v l) : SRd w.heap.size w v l := by
  rcases h.2 with ⟨rfl, h0⟩ | ⟨g, cap, cur, rfl, hb, hgg, hc, hm, hz, ht⟩
  · exact ⟨none, 0, by rw [h0], fun h1 => by omega⟩
  · refine ⟨_, _, rfl, fun h0 => ⟨g, 0, rfl, (Array.getElem?_eq_some_iff.1 hgg).1, fun j hj => ?_⟩⟩
    rw [Nat.zero_add, cell_of_row _ _ j _ _ _ hgg]
    have e : (cur.toList.take (l.length * 1))[j]? = some (iv l[j]) := by rw [ht]; simp [hj]
    rw [List.getElem?_take, if_pos (by omega)] at e
    rw [← Array.getElem?_toList, e]
/-- what comes back lies in a block of the call's own -/
def Fr (B : Nat) (w : World) (v : Value) : Prop := ∀ p n c, v = .slice (some p) n c → B ≤ p.block ∧ p.block < w.heap.size ∧ ∀ j, w.frozen? ⟨p.block, j, none⟩ = false
theorem Fr.nil (B : Nat) (w : World) : Fr B w (.slice none 0 0) := fun _ _ _ h => by injection h with h; cases h
theorem Fr.more {B B' : Nat} {w : World} {v : Value} (h : Fr B w v) (hb : B' ≤ B) : Fr B' w v := fun p n c e => by
  obtain ⟨h1, h2, h3⟩ := h p n c e
  exact ⟨Nat.le_trans hb h1, h2, h3⟩
theorem OB.fr {B : Nat} {w : World} {v : Value} {l : List Nat} (h : OB B w v l) : Fr B w v := by
  rcases h.2 with ⟨rfl, h0⟩ | ⟨g, cap, cur, rfl, hb, hgg, -⟩
  · exact Fr.nil _ _
  · intro p n c e
    injection e with e1 _ _
    injection e1 with e1
    subst e1
    refine ⟨hb, (Array.getElem?_eq_some_iff.1 hgg).1, fun j => ?_⟩
    unfold World.frozen?
    simp only
    rw [hgg]
    simp
theorem VRow.fr {w : World} {g n cap : Nat} {f : Nat → Value} {B : Nat} (h : VRow w g n f) (hB : B ≤ g) : Fr B w (.slice (some ⟨g, 0, none⟩) n cap) := fun p n c e => by
  injection e with e1 _ _
  injection e1 with e1
  subst e1
  exact ⟨hB, h.lt, h.free⟩
/-- needs in form -/
structure Fm (N : Nat) (nd : Nat → List Nat) : Prop where
  few : N ≤ 100
  short : ∀ i, i < N → (nd i).length ≤ 100
  lt : ∀ i, i < N → ∀ x ∈ nd i, x < N
def GRd (n : Nat) (w : World) (v : Value) (N : Nat) (nd : Nat → List Nat) : Prop := ∃ p c, v = .slice p N c ∧ (0 < N → ∃ g o, p = some ⟨g, o, none⟩ ∧ g < n ∧ ∀ i, i < N → ∃ vi, w.cell? ⟨g, o + i, none⟩ = some vi ∧ SRd n w vi (nd i))
theorem GRd.keep {n N : Nat} {w w' : World} {v : Value} {nd : Nat → List Nat} (h : GRd n w v N nd) (hb : Below n w w') : GRd n w' v N nd := by
  obtain ⟨p, c, rfl, h2⟩ := h
  refine ⟨p, c, rfl, fun h0 => ?_⟩
  obtain ⟨g, o, hp, hg, hc⟩ := h2 h0
  refine ⟨g, o, hp, hg, fun i hi => ?_⟩
  obtain ⟨vi, h3, h4⟩ := hc i hi
  exact ⟨vi, by rw [hb.cell (p := ⟨g, o + i, none⟩) hg]; exact h3, h4.keep hb⟩
def ndOf (L : List (List Int)) : Nat → List Nat := fun i => (L.getD i []).map Int.toNat
theorem ndOf_at {L : List (List Int)} {i : Nat} (hi : i < L.length) : ndOf L i = L[i].map Int.toNat := by
  unfold ndOf; rw [List.getD_eq_getElem?_getD, List.getElem?_eq_getElem hi]; rfl
theorem fm_of {L : List (List Int)} (h : chkE L = 0) : Fm L.length (ndOf L) := by
  obtain ⟨h1, h2, h3⟩ := chk_zero h
  refine ⟨h1, fun i hi => by rw [ndOf_at hi, List.length_map]; exact h2 i hi, fun i hi x hx => ?_⟩
  rw [ndOf_at hi, List.mem_map] at hx
  obtain ⟨y, hy, rfl⟩ := hx
  obtain ⟨j, hj, rfl⟩ := List.getElem_of_mem hy
  have := h3 i hi j hj
  omega
theorem NRd.grd {n : Nat} {w : World} {v : Value} {L : List (List Int)} (h : NRd n w v L) (hz : chkE L = 0) : GRd n w v L.length (ndOf L) := by
  obtain ⟨-, -, h3⟩ := chk_zero hz
  obtain ⟨p, c, rfl, h2⟩ := h
  refine ⟨p, c, rfl, fun h0 => ?_⟩
  obtain ⟨g, o, hp, hg, hc⟩ := h2 h0
  refine ⟨g, o, hp, hg, fun i hi => ?_⟩
  obtain ⟨vi, e, p2, c2, rfl, h5⟩ := hc i hi
  refine ⟨_, e, p2, c2, by rw [ndOf_at hi, List.length_map], fun h6 => ?_⟩
  obtain ⟨g2, o2, hp2, hg2, hc2⟩ := h5 (by rw [ndOf_at hi, List.length_map] at h6; exact h6)
  refine ⟨g2, o2, hp2, hg2, fun j hj => ?_⟩
  have hj2 : j < L[i].length := by rw [ndOf_at hi, List.length_map] at hj; exact hj
  have h7 := h3 i hi j hj2
  rw [hc2 j hj2]
  have e2 : (ndOf L i)[j] = (L[i][j]).toNat := by simp only [ndOf_at hi, List.getElem_map]
  unfold iv
  rw [e2, Int.toNat_of_nonneg h7.1]
/-- the next one, looked for from behind -/
def Nx (nd : Nat → List Nat) (N : Nat) (D : List Nat) (k : Nat) (x : Int) : Prop :=
  (x = -1 ∧ ∀ j, k ≤ j → j < N → okN nd D j = false) ∨ ∃ t : Nat, x = t ∧ k ≤ t ∧ t < N ∧ okN nd D t = true ∧ ∀ j, k ≤ j → j < t → okN nd D j = false
theorem Nx.start (nd : Nat → List Nat) (N : Nat) (D : List Nat) : Nx nd N D N (-1) := .inl ⟨rfl, fun j h1 h2 => by omega⟩
theorem Nx.no {nd : Nat → List Nat} {N k : Nat} {D : List Nat} {x : Int} (h : Nx nd N D (k + 1) x) (hk : okN nd D k = false) : Nx nd N D k x := by
  rcases h with ⟨h1, h2⟩ | ⟨t, h1, h2, h3, h4, h5⟩
  · exact .inl ⟨h1, fun j a b => by
      by_cases e : j = k
      · subst e; exact hk
      · exact h2 j (by omega) b⟩
  · exact .inr ⟨t, h1, by omega, h3, h4, fun j a b => by
      by_cases e : j = k
      · subst e; exact hk
      · exact h5 j (by omega) b⟩
theorem Nx.yes {nd : Nat → List Nat} {N k : Nat} {D : List Nat} (hN : k < N) (hk : okN nd D k = true) : Nx nd N D k (k : Int) := .inr ⟨k, rfl, Nat.le_refl _, hN, hk, fun j a b => by omega⟩
theorem Nx.none {nd : Nat → List Nat} {N : Nat} {D : List Nat} {x : Int} (h : Nx nd N D 0 x) (hx : x < 0) : nxt nd N D = none := by
  rcases h with ⟨h1, h2⟩ | ⟨t, h1, h2, h3, h4, h5⟩
  · exact nxt_none.2 fun i hi => h2 i (Nat.zero_le _) hi
  · omega
theorem Nx.some {nd : Nat → List Nat} {N : Nat} {D : List Nat} {x : Int} (h : Nx nd N D 0 x) (hx : ¬ x < 0) : ∃ t : Nat, x = t ∧ nxt nd N D = some t := by
  rcases h with ⟨h1, h2⟩ | ⟨t, h1, h2, h3, h4, h5⟩
  · omega
  · exact ⟨t, h1, nxt_some.2 ⟨h4, h3, fun j hj => h5 j (Nat.zero_le _) hj⟩⟩
abbrev tf (D : List Nat) : Nat → Value := fun j => .bool (D.contains j)
theorem tf_snoc (D : List Nat) (t : Nat) (j : Nat) : updV (tf D) t (.bool true) j = tf (D ++ [t]) j := by
  unfold updV tf
  by_cases e : j = t
  · subst e; simp
  · rw [if_neg e]; simp [e]
set_option maxRecDepth 100000 in
set_option maxHeartbeats 8000000 in
theorem rready_any {n w v l N gt} {D : List Nat} (h : SRd n w v l) (hl : l.length ≤ 1000000) (hlt : ∀ x ∈ l, x < N) (ht : VRow w gt N (tf D)) :
    Calls Try.prog 23 #[v, .slice (some ⟨gt, 0, none⟩) N N] w fun e w' => e = .returned (.bool (l.all D.contains)) ∧ ∃ d, w' = w.drewN d := by
  obtain ⟨p, c, rfl, h2⟩ := h
  have H2 := Lib.hid h2
  have HT := Lib.hid ht
  have HLT := Lib.hid hlt
  obtain ⟨m, hm⟩ : ∃ m, m = l.length := ⟨_, rfl⟩
  have HM := Lib.hid hm
  obtain ⟨R, hR⟩ : ∃ R, R = l.all D.contains := ⟨_, rfl⟩
  have HR := Lib.hid hR
  rw [← hm] at hl ⊢
  rw [← hR]
  clear h2 ht hlt hm hR
  go_enter Try.func23, Try.ntmps23
  go_wp2
  go_loopw [5] (fun z wr => ∃ k : Nat, z = .int .i64 k ∧ k ≤ m ∧ (∃ d, wr = w.drewN d) ∧ Hid (∀ j (h : j < l.length), j < k → D.contains l[j] = true)) (fun z _ => m - (intOf z).toNat)
  case atStart => exact ⟨0, rfl, Nat.zero_le _, ⟨0, rfl⟩, Lib.hid (fun i _ h => absurd h (Nat.not_lt_zero _))⟩
  case round =>
    obtain ⟨k, rfl, hk, ⟨d, rfl⟩, hall⟩ := hrel
    by_cases hlt : k < m
    · have hkl : k < l.length := by rw [← HM.out]; exact hlt
      obtain ⟨g, o, rfl, hg, hc⟩ := H2.out (by omega)
      have hcx := hc k hkl
      obtain ⟨x, hx⟩ : ∃ x, x = l[k] := ⟨_, rfl⟩
      have HX := Lib.hid hx
      rw [← hx] at hcx
      have hxN : x < N := by rw [hx]; exact HLT.out _ (List.getElem_mem hkl)
      have hxi : (x : Int) < (N : Int) := by omega
      have hct := HT.out.cell x hxN
      unfold iv at hcx
      unfold tf at hct
      clear hx hc
      cases hb : D.contains x with
      | true =>
        rw [hb] at hct
        have HA := Lib.hid (show ∀ j (h : j < l.length), j < k + 1 → D.contains l[j] = true from fun j hj h => by
          by_cases e : j = k
          · subst e; rw [← HX.out]; exact hb
          · exact hall.out j hj (by omega))
        clear hb
        go_wp2
        go_roundw
        case rel => exact ⟨k + 1, by go_num, by omega, ⟨_, rfl⟩, HA⟩
        case measure => simp [intOf]; omega
      | false =>
        rw [hb] at hct
        have HF := Lib.hid (show R = false by
          rw [HR.out, Bool.eq_false_iff]; intro e
          have := List.all_eq_true.1 e x (by rw [HX.out]; exact List.getElem_mem hkl)
          rw [hb] at this; cases this)
        clear hb
        go_wp2
        go_ret
        exact ⟨by rw [HF.out]; rfl, _, rfl⟩
    · have HF := Lib.hid (show R = true by
        rw [HR.out, List.all_eq_true]; intro x hx
        obtain ⟨j, hj, rfl⟩ := List.getElem_of_mem hx
        exact hall.out j hj (by rw [← HM.out] at hj; omega))
      go_wp2
      go_ret
      exact ⟨by rw [HF.out]; rfl, _, rfl⟩
set_option maxRecDepth 100000 in
set_option maxHeartbeats 8000000 in
theorem rsame_any {n w va vb} {a b : List Nat} (ha : SRd n w va a) (hb : SRd n w vb b) (hl : a.length ≤ 1000000) (hl2 : b.length ≤ 1000000) :
    Calls Try.prog 11 #[va, vb] w fun e w' => e = .returned (.bool (decide (a = b))) ∧ ∃ d, w' = w.drewN d := by
  obtain ⟨p, c, rfl, h2⟩ := ha
  obtain ⟨p2, c2, rfl, h3⟩ := hb
  have H2 := Lib.hid h2
  have H3 := Lib.hid h3
  obtain ⟨m, hm⟩ : ∃ m, m = a.length := ⟨_, rfl⟩
  have HM := Lib.hid hm
  obtain ⟨m2, hm2⟩ : ∃ m2, m2 = b.length := ⟨_, rfl⟩
  have HM2 := Lib.hid hm2
  obtain ⟨R, hR⟩ : ∃ R, R = decide (a = b) := ⟨_, rfl⟩
  have HR := Lib.hid hR
  rw [← hm] at hl ⊢
  rw [← hm2] at hl2 ⊢
  rw [← hR]
  clear h2 h3 hm hm2 hR
  by_cases he : m = m2
  · subst he
    go_enter Try.func11, Try.ntmps11
    go_wp2
    go_loopw [5] (fun z wr => ∃ k : Nat, z = .int .i64 k ∧ k ≤ m ∧ (∃ d, wr = w.drewN d) ∧ Hid (∀ j (h : j < a.length) (h2 : j < b.length), j < k → a[j] = b[j])) (fun z _ => m - (intOf z).toNat)
    case atStart => exact ⟨0, rfl, Nat.zero_le _, ⟨0, rfl⟩, Lib.hid (fun i _ _ h => absurd h (Nat.not_lt_zero _))⟩
    case round =>
      obtain ⟨k, rfl, hk, ⟨d, rfl⟩, hall⟩ := hrel
      by_cases hlt : k < m
      · have hkl : k < a.length := by rw [← HM.out]; exact hlt
        have hkl2 : k < b.length := by rw [← HM2.out]; exact hlt
        obtain ⟨g, o, rfl, hg, hc⟩ := H2.out (by omega)
        obtain ⟨g2, o2, rfl, hg2, hc2⟩ := H3.out (by omega)
        have hcx := hc k hkl
        have hcy := hc2 k hkl2
        obtain ⟨x, hx⟩ : ∃ x, x = a[k] := ⟨_, rfl⟩
        have HX := Lib.hid hx
        obtain ⟨y, hy⟩ : ∃ y, y = b[k] := ⟨_, rfl⟩
        have HY := Lib.hid hy
        rw [← hx] at hcx
        rw [← hy] at hcy
        unfold iv at hcx hcy
        clear hx hc hy hc2
        by_cases hxy : x = y
        · have HA := Lib.hid (show ∀ j (h : j < a.length) (h2 : j < b.length), j < k + 1 → a[j] = b[j] from fun j hj hj2 h => by
            by_cases e : j = k
            · subst e; rw [← HX.out, ← HY.out]; exact hxy
            · exact hall.out j hj hj2 (by omega))
          subst hxy
          go_wp2
          go_region
          all_goals
            go_wp2
            go_roundw
            case rel => exact ⟨k + 1, by go_num, by omega, ⟨_, rfl⟩, HA⟩
            case measure => simp [intOf]; omega
        · have HF := Lib.hid (show R = false by
            rw [HR.out, decide_eq_false_iff_not]; intro e
            apply hxy; rw [HX.out, HY.out]; subst e; rfl)
          have hxyi : ¬ (x : Int) = (y : Int) := by omega
          go_wp2
          go_region
          all_goals
            go_wp2
            go_ret
            exact ⟨by rw [HF.out]; rfl, _, rfl⟩
      · have HF := Lib.hid (show R = true by
          rw [HR.out, decide_eq_true_iff]
          refine List.ext_getElem (by rw [← HM.out, ← HM2.out]) fun j hj hj2 => hall.out j hj hj2 (by rw [← HM.out] at hj; omega))
        go_wp2
        go_ret
        exact ⟨by rw [HF.out]; rfl, _, rfl⟩
  · have HF := Lib.hid (show R = false by
      rw [HR.out, decide_eq_false_iff_not]; intro e
      apply he; rw [HM.out, HM2.out, e])
    have hei : ¬ (m : Int) = (m2 : Int) := by omega
    go_enter Try.func11, Try.ntmps11
    go_wp2
    go_ret
    exact ⟨by rw [HF.out]; rfl, 0, rfl⟩
end Go.Proofs.Ytdgdeognahmpmaa
