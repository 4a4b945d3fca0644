/-
  traverse, Verify: the program's way comes to progR.
-/
import Derived.Test.YtpgfgaloagdogaaDoorCodC
import Derived.Test.YtpgfgaloagdogaaDoorRl
namespace Go.Proofs.YtpgfgaloagdogaaDoor
open Go.RowKit Go.Maps Go.WideMaps Vm
attribute [local go_sem] setCell_drewN cell?_ext frozen?_ext shape?_ext setCell_ext lt_1' ne_1' en_1' le_1' lt_2' ne_2' en_2' le_2' lt_3' ne_3' en_3' le_3' lt_4' ne_4' en_4' le_4' lt_5' ne_5' en_5' le_5' lt_6' ne_6' en_6' le_6' lt_7' ne_7' en_7' le_7' lt_8' ne_8' en_8' le_8' lt_9' ne_9' en_9' le_9' lt_10' ne_10' en_10' le_10' lt_11' ne_11' en_11' le_11' lt_12' ne_12' en_12' le_12'

/-- an instruction -/
structure InsD where
  op : Int
  a : Int
  t : ByteArray
  neg : Bool
  h : Int
  l : Int
  s : Int
  day : Int
def insE (x : InsD) : List Value := [.int .i64 x.op, .int .i64 x.a, .string x.t, .bool x.neg, .int .u64 x.h, .int .u64 x.l, .int .i64 x.s, .int .i64 x.day]
abbrev two (x : InsD) : Int × Int := (x.op, x.a)
theorem ins_cells {g o : Nat} {w : World} {l : List InsD} (h : ∀ j (h : j < l.length) i u, (insE l[j])[i]? = some u → w.cell? ⟨g, o + j * 8 + i, none⟩ = some u) (j : Nat) (hj : j < l.length) : ∃ op a t neg hh ll s day, l[j] = ⟨op, a, t, neg, hh, ll, s, day⟩ ∧
    w.cell? ⟨g, o + j * 8, none⟩ = some (.int .i64 op) ∧ w.cell? ⟨g, o + j * 8 + 1, none⟩ = some (.int .i64 a) ∧ w.cell? ⟨g, o + j * 8 + 2, none⟩ = some (.string t) ∧ w.cell? ⟨g, o + j * 8 + 3, none⟩ = some (.bool neg) ∧ w.cell? ⟨g, o + j * 8 + 4, none⟩ = some (.int .u64 hh) ∧
    w.cell? ⟨g, o + j * 8 + 5, none⟩ = some (.int .u64 ll) ∧ w.cell? ⟨g, o + j * 8 + 6, none⟩ = some (.int .i64 s) ∧ w.cell? ⟨g, o + j * 8 + 7, none⟩ = some (.int .i64 day) := by
  obtain ⟨op, a, t, neg, hh, ll, s, day, e⟩ : ∃ op a t neg hh ll s day, l[j] = ⟨op, a, t, neg, hh, ll, s, day⟩ := ⟨_, _, _, _, _, _, _, _, rfl⟩
  have h2 := h j hj
  rw [e] at h2
  exact ⟨op, a, t, neg, hh, ll, s, day, e, h2 0 _ rfl, h2 1 _ rfl, h2 2 _ rfl, h2 3 _ rfl, h2 4 _ rfl, h2 5 _ rfl, h2 6 _ rfl, h2 7 _ rfl⟩
/-- all states so far are small -/
def Small (i : Nat) (m : Nat → Option St) : Prop := ∀ j s, m j = some s → 0 ≤ s.1 ∧ s.1 ≤ i ∧ 0 ≤ s.2 ∧ s.2 ≤ i + 1
theorem small_m0 {fin : Int} (h0 : 0 ≤ fin) (h1 : fin ≤ 1) : Small 0 (m0 fin) := fun j s h => by
  unfold m0 at h
  split at h
  · cases h; simp only; omega
  · cases h
theorem small_put {i : Nat} {m : Nat → Option St} (h : Small i m) (G : List Nat) {s : St} (h0 : 0 ≤ s.1) (h1 : s.1 ≤ i + 1) (h2 : 0 ≤ s.2) (h3 : s.2 ≤ i + 2) : Small (i + 1) (put m G s) := fun j u hu => by
  unfold put at hu
  split at hu
  · cases hu; omega
  · have := h j u hu; omega
theorem onN_le (op : Int) : 0 ≤ onN op ∧ onN op ≤ 1 := by unfold onN; split <;> omega
theorem turnN_le (op : Int) : -1 ≤ turnN op ∧ turnN op ≤ 1 := by unfold turnN; split; omega; split <;> omega
/-- what hinders -/
theorem step_no {len : Nat} {fin : Int} {op a : Int} {r : List (Int × Int)} {i : Nat} {m : Nat → Option St} {hi : Int} (h : m i = none ∨ ∃ s, m i = some s ∧ (fineB op a s.1 s.2 = false ∨ ¬ okA op a i len)) : progR len fin ((op, a) :: r) i m hi = none := by
  unfold progR
  rcases h with h | ⟨s, h, hq⟩
  · rw [h]; cases takes op a <;> rfl
  · rw [h]
    by_cases hb : okB op a
    · rw [takes_off hb]
      cases hof : offN op a with
      | none => rfl
      | some n =>
        simp only [Option.map_some]
        rw [if_neg]
        rintro ⟨⟨h1, h2, h3⟩, -⟩
        simp only at h1 h2
        rcases hq with hq | hq
        · unfold fineB at hq
          rw [hof] at hq
          simp only [Option.isSome_some, Option.getD_some, Bool.true_and, decide_eq_true h1] at hq
          unfold askN at h2
          by_cases hk : asks op
          · rw [if_pos hk] at h2
            rw [decide_eq_true hk, decide_eq_false (by omega)] at hq
            cases hq
          · rw [decide_eq_false hk] at hq
            cases hq
        · exact hq ((okA_iff (by omega)).2 ⟨hb, h3⟩)
    · rw [takes_no hb]
/-- what goes on -/
theorem step_yes {len : Nat} {fin : Int} {op a : Int} {r : List (Int × Int)} {i : Nat} {m : Nat → Option St} {hi : Int} {s : St} (h : m i = some s) (hs : Small i m) (hq : fineB op a s.1 s.2 = true) (ho : okA op a i len) :
    (fit m (goals op a i) (s.1 - (offN op a).getD 0 + onN op, s.2 + turnN op) → progR len fin ((op, a) :: r) i m hi = progR len fin r (i + 1) (put m (goals op a i) (s.1 - (offN op a).getD 0 + onN op, s.2 + turnN op)) (max hi (s.1 - (offN op a).getD 0 + onN op))) ∧
    (¬ fit m (goals op a i) (s.1 - (offN op a).getD 0 + onN op, s.2 + turnN op) → progR len fin ((op, a) :: r) i m hi = none) ∧ 0 ≤ a ∧ (jmp op → (i : Int) < a ∧ a ≤ len) ∧
    Small (i + 1) (put m (goals op a i) (s.1 - (offN op a).getD 0 + onN op, s.2 + turnN op)) := by
  have hob := (okA_iff (by omega)).1 ho
  have hap := okB_pos hob.1
  obtain ⟨q1, q2, q3, q4⟩ := hs i s h
  cases hof : offN op a with
  | none => unfold fineB at hq; rw [hof] at hq; cases hq
  | some n =>
    have hn := off_pos hap hof
    unfold fineB at hq
    rw [hof] at hq
    simp only [Option.isSome_some, Option.getD_some, Bool.true_and, Bool.and_eq_true, decide_eq_true_eq] at hq
    simp only [Option.getD_some]
    have hk2 : asks op → 1 ≤ s.2 := fun hk => by
      have := hq.2
      rw [decide_eq_true hk] at this
      simp at this; omega
    have hok : okAt len op a i (n, onN op, turnN op, askN op) s := ⟨hq.1, by
      show askN op ≤ s.2
      unfold askN
      by_cases hk : asks op
      · rw [if_pos hk]; exact hk2 hk
      · rw [if_neg hk]; exact q3, hob.2⟩
    refine ⟨fun hf => ?_, fun hf => ?_, hap, hob.2, small_put hs _ ?_ ?_ ?_ ?_⟩
    · conv => lhs; unfold progR
      rw [takes_off hob.1, hof, h]
      simp only [Option.map_some]
      rw [if_pos ⟨hok, hf⟩]
    · unfold progR
      rw [takes_off hob.1, hof, h]
      simp only [Option.map_some]
      rw [if_neg fun e => hf e.2]
    · have := (onN_le op).1; have := hq.1; show 0 ≤ s.1 - n + onN op; omega
    · have := (onN_le op).2; show s.1 - n + onN op ≤ i + 1; omega
    · show 0 ≤ s.2 + turnN op
      unfold turnN
      split
      · omega
      · split
        · have := hk2 (by unfold asks; omega); omega
        · omega
    · have := (turnN_le op).2; show s.2 + turnN op ≤ i + 2; omega
theorem goalsI_is {op a : Int} {i : Nat} (ha : 0 ≤ a) : goalsI op a i = (goals op a i).map (fun j : Nat => (j : Int)) := by
  have e : ((a.toNat : Nat) : Int) = a := Int.toNat_of_nonneg ha
  unfold goalsI goals
  split
  · simp [e]
  · split
    · simp [e]
    · simp
/-- how traverse ends -/
def TrQ (R : Option Int) (w : World) (en : Ending) (w' : World) : Prop := ∃ x : Int, en = .returned (.tuple #[.int .i64 x, .bool R.isSome]) ∧ Below w.heap.size w w' ∧ (∀ r, R = some r → x = r)
theorem run_mm (w : World) : (Instr.makeMap 77 none).run Tryd.prog w = .ok (.map (some w.heap.size)) (w.alloc (.map #[] 0)) := by
  simp [Instr.makeMap, go_sem]
section
variable (w : World) {ops : Array Oper} {rest : List Oper} {o : Oper} {a : Act} {Q : Exit → Act → World → Prop}
theorem look_none (hg : o.guard = none) (mo x : Operand) (hop : o.op = Op.lookup 77 mo x true) {b n : Nat} {m : Nat → Option St} (hm : a.eval mo = .map (some b)) (hown : MapIs w b n m) (j : Nat) {z : Int} (hz : z = (j : Int)) (hj : j ≤ 1000000) (hx : a.eval x = .int .i64 z) (hr : m j = none)
    (hK : wpList Tryd.prog ops Q rest (a.put o.dst (.tuple #[.agg #[.int .i64 0, .int .i64 0], .bool false])) w) : wpList Tryd.prog ops Q (o :: rest) a w := by
  refine wpList_look_st w hg mo x hop hm hown j hz hj hx ?_
  rw [hr]; exact hK
theorem look_some (hg : o.guard = none) (mo x : Operand) (hop : o.op = Op.lookup 77 mo x true) {b n : Nat} {m : Nat → Option St} (hm : a.eval mo = .map (some b)) (hown : MapIs w b n m) (j : Nat) {z : Int} (hz : z = (j : Int)) (hj : j ≤ 1000000) (hx : a.eval x = .int .i64 z) {u v : Int} (hr : m j = some (u, v))
    (hK : wpList Tryd.prog ops Q rest (a.put o.dst (.tuple #[.agg #[.int .i64 u, .int .i64 v], .bool true])) w) : wpList Tryd.prog ops Q (o :: rest) a w := by
  refine wpList_look_st w hg mo x hop hm hown j hz hj hx ?_
  rw [hr]; exact hK
end
/-- the map and what began, in memory -/
structure TS (w : World) (fin : Int) (wr : World) (cnt : Nat) (m : Nat → Option St) : Prop where
  map : MapIs wr (w.heap.size + 1) cnt m
  c1 : wr.cell? ⟨w.heap.size, 1, none⟩ = some (.int .i64 fin)
  bel : Below w.heap.size w wr
theorem TS.lt {w wr : World} {fin : Int} {cnt : Nat} {m : Nat → Option St} (h : TS w fin wr cnt m) : w.heap.size + 1 < wr.heap.size := h.map.lt
theorem TS.new {w wr w' : World} {fin : Int} {cnt : Nat} {m : Nat → Option St} (h : TS w fin wr cnt m) (hb : Below wr.heap.size wr w') : TS w fin w' cnt m :=
  ⟨h.map.new hb, by rw [hb.cell (p := ⟨w.heap.size, 1, none⟩) (by have := h.lt; show w.heap.size < wr.heap.size; omega)]; exact h.c1, h.bel.trans (hb.mono (by have := h.lt; omega))⟩
theorem TS.grown {w wr w' : World} {fin : Int} {cnt cnt' : Nat} {m m' : Nat → Option St} (h : TS w fin wr cnt m) (hm : MapIs w' (w.heap.size + 1) cnt' m') (hg : wr.grownBy w' (some (w.heap.size + 1))) : TS w fin w' cnt' m' :=
  ⟨hm, by rw [World.cell?_of_block (a := ⟨w.heap.size, 1, none⟩) (hg.block w.heap.size (by have := h.lt; omega) (by simp))]; exact h.c1, h.bel.grown hg (by have := h.lt; omega) (fun j hj => by cases hj; omega)⟩
theorem TS.old {w wr w' : World} {fin : Int} {cnt : Nat} {m : Nat → Option St} (_ : TS w fin wr cnt m) (hg : wr.grownBy w' (some (w.heap.size + 1))) {g j : Nat} (hg2 : g < wr.heap.size) (hne : g ≠ w.heap.size + 1) : w'.cell? ⟨g, j, none⟩ = wr.cell? ⟨g, j, none⟩ :=
  World.cell?_of_block (a := ⟨g, j, none⟩) (hg.block g hg2 (by simp; omega))
theorem ts_start {w w1 : World} {fin : Int} (hm : MapIs w1 (w.heap.size + 1) (0 + 1) (m0 fin)) (hg : ((w.alloc (.cells #[.int .i64 0, .int .i64 fin] 60)).alloc (.map #[] 0)).grownBy w1 (some (w.heap.size + 1))) :
    w1.cell? ⟨w.heap.size, 0, none⟩ = some (.int .i64 0) ∧ TS w fin w1 1 (m0 fin) := by
  have hb := hg.block w.heap.size (by simp; omega) (by simp)
  refine ⟨by rw [World.cell?_of_block (a := ⟨w.heap.size, 0, none⟩) hb]; simp, hm, by rw [World.cell?_of_block (a := ⟨w.heap.size, 1, none⟩) hb]; simp, ?_⟩
  exact (((Below.refl w.heap.size w).alloc (Nat.le_refl _) _).alloc (by simp) _).grown hg (by simp; omega) (fun j hj => by cases hj; omega)
theorem put_take {m : Nat → Option St} {G : List Nat} {k j : Nat} (s : St) (h : G.take (k + 1) = G.take k ++ [j]) : (fun i => if i = j then some s else put m (G.take k) s i) = put m (G.take (k + 1)) s := by
  funext i
  unfold put
  rw [h]
  by_cases e : i = j
  · rw [if_pos e, if_pos (by simp [e])]
  · rw [if_neg e]
    by_cases e2 : i ∈ G.take k
    · rw [if_pos e2, if_pos (List.mem_append_left _ e2)]
    · rw [if_neg e2, if_neg (by simp [e, e2])]
theorem fit_take {m : Nat → Option St} {G : List Nat} {k j : Nat} {s : St} (h : G.take (k + 1) = G.take k ++ [j]) (hf : fit m (G.take k) s) (hj : m j = none ∨ m j = some s) : fit m (G.take (k + 1)) s := fun i hi => by
  rw [h] at hi
  rcases List.mem_append.1 hi with hi | hi
  · exact hf i hi
  · simp at hi; subst hi; exact hj
theorem fit_none {m : Nat → Option St} {L : List Nat} {s : St} {j : Nat} (h : put m L s j = none) : m j = none ∨ m j = some s := by
  unfold put at h
  split at h
  · cases h
  · exact .inl h
theorem fit_some {m : Nat → Option St} {L : List Nat} {s : St} {j : Nat} (hf : fit m L s) (h : put m L s j = some s) : m j = none ∨ m j = some s := by
  unfold put at h
  split at h
  · rename_i hj; exact hf j hj
  · exact .inr h
theorem unfit {m : Nat → Option St} {L G : List Nat} {s u : St} {j : Nat} (h : put m L s j = some u) (hne : u ≠ s) (hj : j ∈ G) : ¬ fit m G s := fun hf => by
  unfold put at h
  split at h
  · exact hne (Option.some.inj h).symm
  · rcases hf j hj with h2 | h2
    · rw [h] at h2; cases h2
    · rw [h] at h2; exact hne (Option.some.inj h2)
theorem ts_put {w wr w3 : World} {fin : Int} {cnt : Nat} {m m' : Nat → Option St} {A : Obj} (h : TS w fin wr cnt m) (hm : MapIs w3 (w.heap.size + 1) (cnt + 1) m') (hg : (wr.alloc A).grownBy w3 (some (w.heap.size + 1))) :
    TS w fin w3 (cnt + 1) m' ∧ (wr.heap.size < w3.heap.size ∧ ∀ g j, g < wr.heap.size → g ≠ w.heap.size + 1 → w3.cell? ⟨g, j, none⟩ = wr.cell? ⟨g, j, none⟩) := by
  have h2 : TS w fin (wr.alloc A) cnt m := h.new ((Below.refl _ _).alloc (Nat.le_refl _) _)
  refine ⟨h2.grown hm hg, ?_, fun g j hg2 hne => ?_⟩
  · have := hg.size
    rw [World.size_alloc] at this; omega
  · rw [h2.old hg (by simp; omega) hne]
    exact World.cell?_of_block (a := ⟨g, j, none⟩) (heap_alloc_old wr A hg2)
set_option maxRecDepth 100000 in
set_option maxHeartbeats 8000000 in
theorem traverse_any (l : List InsD) (fin : Int) (h0 : 0 ≤ fin) (h1 : fin ≤ 1) (n : Nat) (w : World) (v : Value) (hv : RL 8 insE n w v l) (hn : n ≤ w.heap.size) (hl : l.length ≤ 600) :
    Calls Tryd.prog 29 #[v, .agg #[.int .i64 0, .int .i64 fin]] w fun e w' => TrQ (progR l.length fin (l.map two) 0 (m0 fin) 0) w e w' := by
  obtain ⟨p, c, rfl, h2⟩ := hv
  have H2 := Lib.hid h2
  have HN := Lib.hid hn
  obtain ⟨len, hlen⟩ : ∃ len, len = l.length := ⟨_, rfl⟩
  have HL := Lib.hid hlen
  rw [← hlen] at hl ⊢
  obtain ⟨R, hR⟩ : ∃ R, R = progR len fin (l.map two) 0 (m0 fin) 0 := ⟨_, rfl⟩
  have HR := Lib.hid hR
  rw [← hR]
  have hmm := run_mm
  have HM0 := Lib.hid (show MapIs ((w.alloc (.cells #[.int .i64 0, .int .i64 fin] 60)).alloc (.map #[] 0)) (w.heap.size + 1) 0 (fun _ => none) from ⟨.map [], by
    have := World.ownsMap_made (w.alloc (.cells #[.int .i64 0, .int .i64 fin] 60)) Tryd.prog 3 stElem
    rwa [World.size_alloc] at this, tells_nil⟩)
  have HS0 := Lib.hid (small_m0 h0 h1)
  clear h2 hn hlen hR h0 h1
  go_enter Tryd.func29, Tryd.ntmps29
  go_wp2_with (first
    | (refine wpList_ins_st _ rfl _ _ _ rfl rfl HM0.out (by omega) 0 rfl (by omega) rfl (0, fin) rfl ?_; intro w1 hm1 hg1; obtain ⟨c0, hts⟩ := ts_start hm1 hg1; have HTS := Lib.hid hts; clear hm1 hg1 hts)
    | go_in)
  go_loopw [8, 30] (fun z y wr => ∃ (i : Nat) (hi : Int) (cnt : Nat) (m : Nat → Option St), y = .int .i64 i ∧ z = .int .i64 hi ∧ i ≤ len ∧ cnt ≤ 2 * i + 1 ∧ Hid (TS w fin wr cnt m) ∧ Hid (Small i m) ∧ Hid (progR len fin ((l.drop i).map two) i m hi = R)) (fun _ y _ => len - (intOf y).toNat)
  case atStart => exact ⟨0, 0, 1, m0 fin, rfl, rfl, Nat.zero_le _, Nat.le_refl _, HTS, HS0, Lib.hid HR.out.symm⟩
  case round =>
    obtain ⟨i, hi, cnt, m, rfl, rfl, hil, hcnt, hts, hsm, hpr⟩ := hrel
    clear c0 HTS HS0 HR
    by_cases hlt : i < len
    · have hlti : (i : Int) < (len : Int) := by omega
      have hil2 : i < l.length := by rw [← HL.out]; exact hlt
      obtain ⟨g, o, rfl, hg, hc⟩ := H2.out (by omega)
      have hc2 : ∀ j (h : j < l.length) i u, (insE l[j])[i]? = some u → wr.cell? ⟨g, o + j * 8 + i, none⟩ = some u := fun j hj i u hu => by
        rw [hts.out.bel.cell (p := ⟨g, _, none⟩) (Nat.lt_of_lt_of_le hg HN.out)]; exact hc j hj i u hu
      obtain ⟨op, a, t, neg, hh, ll, s, day, he, x0, x1, x2, x3, x4, x5, x6, x7⟩ := ins_cells hc2 i hil2
      have hdrop : (l.drop i).map two = (op, a) :: (l.drop (i + 1)).map two := by
        rw [List.drop_eq_getElem_cons hil2, List.map_cons, he]
      have HPR := Lib.hid (show progR len fin ((op, a) :: (l.drop (i + 1)).map two) i m hi = R by rw [← hdrop]; exact hpr.out)
      have HM := Lib.hid (fun w' (hb : Below wr.heap.size wr w') => hts.out.map.new hb)
      have HAL := Lib.hid (fun w' => cdallowed_any op a i len t neg hh ll s day w')
      have HTB := Lib.hid hts.out.bel
      have hsw : w.heap.size ≤ wr.heap.size := by have := hts.out.lt; omega
      have hi6 : i ≤ 1000000 := by omega
      clear hc hc2 he hdrop hpr H2 HL hil2
      cases hmi : m i with
      | none =>
        have HF := Lib.hid (show R = none by rw [← HPR.out]; exact step_no (.inl hmi))
        obtain ⟨f, hf⟩ : ∃ f, f = fineB op a 0 0 := ⟨_, rfl⟩
        have HA := Lib.hid (show ∀ w', Calls Tryd.prog 43 #[.agg #[.int .i64 0, .int .i64 0], InsV op a t neg hh ll s day] w' fun en w'' => ∃ x y : Int, en = .returned (.tuple #[.agg #[.int .i64 x, .int .i64 y], .bool f]) ∧ Below w'.heap.size w' w'' from fun w' =>
          (after_any 0 0 op a t neg hh ll s day w' (by omega) (by omega) (by omega) (by omega)).mono fun en w'' h => by
            obtain ⟨x, y, h1, h2, -⟩ := h
            exact ⟨x, y, by rw [hf]; exact h1, h2⟩)
        have HMI := Lib.hid hmi
        clear hf hmi HPR HAL hts hsm
        go_wp2_with (first
          | (at_lookup; refine look_none _ rfl _ _ rfl rfl (HM.out _ (by (repeat' (first | (with_reducible exact Below.refl _ _) | (with_reducible assumption) | (with_reducible refine Below.alloc ?_ ?_ _) | (with_reducible refine below_drewN ?_ _) | (with_reducible refine below_drew ?_) | (with_reducible refine below_ext ?_ ?_ _ _) | (with_reducible refine Below.setCell ?_ ?_ _) | (simp; done) | (simp; omega) | omega)))) i rfl hi6 rfl HMI.out ?_)
          | (go_at_call 43; (with_reducible refine (HA.out _).mono ?_); rintro e w2 ⟨x, y, rfl, hb1⟩; obtain ⟨osA, dA, rfl⟩ := ext_of_below hb1; clear hb1))
        go_ret2
        exact (show ∃ x, _ from ⟨0, by rw [HF.out]; rfl, HTB.out.trans (by (repeat' (first | (with_reducible exact Below.refl _ _) | (with_reducible assumption) | (with_reducible refine Below.alloc ?_ ?_ _) | (with_reducible refine below_drewN ?_ _) | (with_reducible refine below_drew ?_) | (with_reducible refine below_ext ?_ ?_ _ _) | (with_reducible refine Below.setCell ?_ ?_ _) | (simp; done) | (simp; omega) | omega))), fun r h => by rw [HF.out] at h; cases h⟩)
      | some st =>
        obtain ⟨u, v⟩ := st
        have hb4 := hsm.out i _ hmi
        simp only at hb4
        obtain ⟨f, hf⟩ : ∃ f, f = fineB op a u v := ⟨_, rfl⟩
        have HA := Lib.hid (show ∀ w', Calls Tryd.prog 43 #[.agg #[.int .i64 u, .int .i64 v], InsV op a t neg hh ll s day] w' fun en w'' => ∃ x y : Int, en = .returned (.tuple #[.agg #[.int .i64 x, .int .i64 y], .bool f]) ∧ Below w'.heap.size w' w'' ∧ Hid (0 ≤ a → f = true → x = u - (offN op a).getD 0 + onN op ∧ y = v + turnN op) from fun w' =>
          (after_any u v op a t neg hh ll s day w' (by omega) (by omega) (by omega) (by omega)).mono fun en w'' h => by
            obtain ⟨x, y, h1, h2, h3⟩ := h
            exact ⟨x, y, by rw [hf]; exact h1, h2, Lib.hid (by rw [hf]; exact h3)⟩)
        have HMI := Lib.hid hmi
        by_cases hgo : f = true ∧ okA op a i len
        · obtain ⟨rfl, hok⟩ := hgo
          obtain ⟨y1, y2, hap, hjm, hsm2⟩ := step_yes (len := len) (fin := fin) (r := (l.drop (i + 1)).map two) (hi := hi) hmi hsm.out (by rw [← hf]) hok
          rw [HPR.out] at y1 y2
          have HGI := Lib.hid (goalsI_is (op := op) (i := i) hap)
          have HGL := Lib.hid (fun j (hj : j ∈ goals op a i) => goals_in hj hlt hjm)
          obtain ⟨X, hX⟩ : ∃ X, X = u - (offN op a).getD 0 + onN op := ⟨_, rfl⟩
          obtain ⟨Y, hY⟩ : ∃ Y, Y = v + turnN op := ⟨_, rfl⟩
          rw [← hX, ← hY] at HA y1 y2 hsm2
          obtain ⟨M, hM⟩ : ∃ M, M = max hi X := ⟨_, rfl⟩
          rw [← hM] at y1
          have HMX := Lib.hid hM
          clear hM
          have hgl2 : (goals op a i).length ≤ 2 := by unfold goals; split <;> (try split) <;> simp
          obtain ⟨G, hG⟩ : ∃ G, G = goals op a i := ⟨_, rfl⟩
          rw [← hG] at HGI HGL y1 y2 hsm2 hgl2
          obtain ⟨gl, hgl⟩ : ∃ gl, gl = G.length := ⟨_, rfl⟩
          have HLG := Lib.hid hgl
          rw [← hgl] at hgl2
          have HT := Lib.hid (show ∀ w', Calls Tryd.prog 45 #[InsV op a t neg hh ll s day, .int .i64 i] w' fun en w'' => ∃ gt, en = .returned (.slice (some ⟨gt, 0, none⟩) gl gl) ∧ Below w'.heap.size w' w'' ∧ w'.heap.size ≤ gt ∧ gt < w''.heap.size ∧ Hid (∀ j (h : j < G.length), w''.cell? ⟨gt, j, none⟩ = some (.int .i64 (G[j] : Int))) from fun w' =>
            (targets_any op a i t neg hh ll s day w' (by omega) (by omega)).mono fun en w'' h => by
              obtain ⟨gt, h1, h2, h3, h4, h5⟩ := h
              rw [HGI.out] at h1 h5
              rw [List.length_map, ← HLG.out] at h1
              exact ⟨gt, h1, h2, h3, h4, Lib.hid fun j hj => by
                have := h5 j (by rw [List.length_map]; exact hj)
                rw [this, List.getElem_map]⟩)
          have HY1 := Lib.hid y1
          have HY2 := Lib.hid y2
          have HS2 := Lib.hid hsm2
          have HTS := Lib.hid hts.out
          have HAL2 := Lib.hid (show ∀ w', Calls Tryd.prog 44 #[InsV op a t neg hh ll s day, .int .i64 i, .int .i64 len] w' fun e w'' => e = .returned (.bool true) ∧ Below w'.heap.size w' w'' from fun w' => by
            have := HAL.out w'
            rwa [decide_eq_true hok] at this)
          have HAP := Lib.hid hap
          clear hf hmi HPR HAL hts hsm hb4 hok y1 y2 hap hjm hsm2 hX hY hG hgl HGI
          go_wp2_with (first
            | (at_lookup; refine look_some _ rfl _ _ rfl rfl (HM.out _ (by (repeat' (first | (with_reducible exact Below.refl _ _) | (with_reducible assumption) | (with_reducible refine Below.alloc ?_ ?_ _) | (with_reducible refine below_drewN ?_ _) | (with_reducible refine below_drew ?_) | (with_reducible refine below_ext ?_ ?_ _ _) | (with_reducible refine Below.setCell ?_ ?_ _) | (simp; done) | (simp; omega) | omega)))) i rfl hi6 rfl HMI.out ?_)
            | (go_at_call 43; (with_reducible refine (HA.out _).mono ?_); rintro e w2 ⟨x, y, rfl, hb1, hxy⟩; obtain ⟨rfl, rfl⟩ := hxy.out HAP.out rfl; obtain ⟨osA, dA, rfl⟩ := ext_of_below hb1; clear hb1 hxy)
            | (go_at_call 44; ((with_reducible refine (HAL2.out _).mono ?_); rintro e w1 ⟨rfl, hb1⟩; obtain ⟨osB, dB, rfl⟩ := ext_of_below hb1; clear hb1))
            | (go_at_call 45; (with_reducible refine (HT.out _).mono ?_); rintro e w2 ⟨gt, rfl, hb1, hgt1, hgt2, hgt3⟩; have hgt4 : w.heap.size + 1 < gt := Nat.lt_of_lt_of_le (by simp; omega) hgt1; obtain ⟨osC, dC, rfl⟩ := ext_of_below hb1; clear hb1 hgt1))
          all_goals
            first
              | (have h9 : hi = M := ?_; rotate_left; (have := HMX.out; omega); subst h9)
              | (have h9 : x = M := ?_; rotate_left; (have := HMX.out; omega); subst h9)
            clear HMX
            go_loopw [68] (fun z wr2 => ∃ (k cnt2 : Nat), z = .int .i64 k ∧ k ≤ gl ∧ cnt2 ≤ cnt + k ∧ Hid (TS w fin wr2 cnt2 (put m (G.take k) (x, y))) ∧ Hid (fit m (G.take k) (x, y)) ∧ wr2.cell? ⟨wr.heap.size + 1 + 1 + osA.size, 0, none⟩ = some (.int .i64 x) ∧ wr2.cell? ⟨wr.heap.size + 1 + 1 + osA.size, 1, none⟩ = some (.int .i64 y) ∧
              Hid (∀ j (h : j < G.length), wr2.cell? ⟨gt, j, none⟩ = some (.int .i64 (G[j] : Int))) ∧ wr.heap.size + 1 + 1 + osA.size < wr2.heap.size ∧ gt < wr2.heap.size) (fun z _ => gl - (intOf z).toNat)
            case atStart => exact ⟨0, cnt, rfl, Nat.zero_le _, Nat.le_refl _, Lib.hid (HTS.out.new (by (repeat' (first | (with_reducible exact Below.refl _ _) | (with_reducible assumption) | (with_reducible refine Below.alloc ?_ ?_ _) | (with_reducible refine below_drewN ?_ _) | (with_reducible refine below_drew ?_) | (with_reducible refine below_ext ?_ ?_ _ _) | (with_reducible refine Below.setCell ?_ ?_ _) | (simp; done) | (simp; omega) | omega)))), Lib.hid (fun j hj => by simp at hj), by go_simp, by go_simp, hgt3, by simp; omega, hgt2⟩
            case round =>
              obtain ⟨k, cnt2, rfl, hk, hcnt2, hts2, hft, d0, d1, hgc, hl1, hl2⟩ := hrel
              by_cases hkl : k < gl
              · have hki : (k : Int) < (gl : Int) := by omega
                have hkg : k < G.length := by rw [← HLG.out]; exact hkl
                have hcx := hgc.out k hkg
                obtain ⟨j, hj⟩ : ∃ j, j = G[k] := ⟨_, rfl⟩
                rw [← hj] at hcx
                have hjb := HGL.out j (by rw [hj]; exact List.getElem_mem hkg)
                have hj6 : j ≤ 1000000 := by omega
                have HMB := Lib.hid (fun w' (hb : Below wr.heap.size wr w') => hts2.out.map.new hb)
                have hc6 : cnt2 ≤ 1000000 := by omega
                have HTK := Lib.hid (show G.take (k + 1) = G.take k ++ [j] by rw [List.take_add_one, List.getElem?_eq_getElem hkg, ← hj]; rfl)
                have HJG := Lib.hid (show j ∈ G by rw [hj]; exact List.getElem_mem hkg)
                have HPK := Lib.hid (put_take (m := m) (x, y) HTK.out)
                have HTS3 := Lib.hid hts2.out
                have HFT := Lib.hid hft.out
                clear hj hkg hjb hts2 hft
                cases hq : put m (G.take k) (x, y) j with
                | none =>
                  have HQ := Lib.hid hq
                  have HFT2 := Lib.hid (fit_take (s := (x, y)) HTK.out HFT.out (fit_none hq))
                  clear hq
                  go_wp2_with (first
                    | (at_lookup; refine look_none _ rfl _ _ rfl rfl (HMB.out _ (by (repeat' (first | (with_reducible exact Below.refl _ _) | (with_reducible assumption) | (with_reducible refine Below.alloc ?_ ?_ _) | (with_reducible refine below_drewN ?_ _) | (with_reducible refine below_drew ?_) | (with_reducible refine below_ext ?_ ?_ _ _) | (with_reducible refine Below.setCell ?_ ?_ _) | (simp; done) | (simp; omega) | omega)))) j rfl hj6 rfl HQ.out ?_)
                    | (at_mapUpdate; refine wpList_put_st _ rfl _ _ _ rfl rfl (HMB.out _ (by (repeat' (first | (with_reducible exact Below.refl _ _) | (with_reducible assumption) | (with_reducible refine Below.alloc ?_ ?_ _) | (with_reducible refine below_drewN ?_ _) | (with_reducible refine below_drew ?_) | (with_reducible refine below_ext ?_ ?_ _ _) | (with_reducible refine Below.setCell ?_ ?_ _) | (simp; done) | (simp; omega) | omega)))) hc6 j rfl hj6 rfl (x, y) rfl ?_; intro w3 hm3 hg3; obtain ⟨hts4, ho4⟩ := ts_put HTS3.out hm3 hg3; have HT4 := Lib.hid (HPK.out ▸ hts4); have HO4 := Lib.hid ho4; clear hm3 hg3 hts4 ho4))
                  have e0 := (HO4.out.2 _ 0 hl1 (by omega)).trans d0
                  have e1 := (HO4.out.2 _ 1 hl1 (by omega)).trans d1
                  have HG4 := Lib.hid (fun i (h : i < G.length) => (HO4.out.2 gt i hl2 (by omega)).trans (hgc.out i h))
                  go_roundw
                  case rel => exact ⟨k + 1, cnt2 + 1, by go_num, by omega, by omega, HT4, HFT2, e0, e1, HG4, Nat.lt_trans hl1 HO4.out.1, Nat.lt_trans hl2 HO4.out.1⟩
                  case measure => simp [intOf]; omega
                | some st =>
                  obtain ⟨p1, q1⟩ := st
                  have HQ := Lib.hid hq
                  have hmg : Tryd.prog.eqGuardType Tryd.prog.depth 60 = false := by kernel_rfl
                  by_cases hpq : (p1, q1) = ((x, y) : St)
                  · have HFT2 := Lib.hid (fit_take (s := (x, y)) HTK.out HFT.out (fit_some HFT.out (hpq ▸ hq)))
                    have HEQ : ∀ w, (Op.equalIn 10000 60 (.agg #[.int .i64 p1, .int .i64 q1]) (.agg #[.int .i64 x, .int .i64 y])).run Tryd.prog w = .ok true w := fun w => by
                      have := st_eq (p1, q1) (x, y) w
                      rwa [decide_eq_true hpq] at this
                    clear hq hpq
                    go_wp2_with (first
                      | (at_lookup; refine look_some _ rfl _ _ rfl rfl (HMB.out _ (by (repeat' (first | (with_reducible exact Below.refl _ _) | (with_reducible assumption) | (with_reducible refine Below.alloc ?_ ?_ _) | (with_reducible refine below_drewN ?_ _) | (with_reducible refine below_drew ?_) | (with_reducible refine below_ext ?_ ?_ _ _) | (with_reducible refine Below.setCell ?_ ?_ _) | (simp; done) | (simp; omega) | omega)))) j rfl hj6 rfl HQ.out ?_)
                      | (at_mapUpdate; refine wpList_put_st _ rfl _ _ _ rfl rfl (HMB.out _ (by (repeat' (first | (with_reducible exact Below.refl _ _) | (with_reducible assumption) | (with_reducible refine Below.alloc ?_ ?_ _) | (with_reducible refine below_drewN ?_ _) | (with_reducible refine below_drew ?_) | (with_reducible refine below_ext ?_ ?_ _ _) | (with_reducible refine Below.setCell ?_ ?_ _) | (simp; done) | (simp; omega) | omega)))) hc6 j rfl hj6 rfl (x, y) rfl ?_; intro w3 hm3 hg3; obtain ⟨hts4, ho4⟩ := ts_put HTS3.out hm3 hg3; have HT4 := Lib.hid (HPK.out ▸ hts4); have HO4 := Lib.hid ho4; clear hm3 hg3 hts4 ho4))
                    have e0 := (HO4.out.2 _ 0 hl1 (by omega)).trans d0
                    have e1 := (HO4.out.2 _ 1 hl1 (by omega)).trans d1
                    have HG4 := Lib.hid (fun i (h : i < G.length) => (HO4.out.2 gt i hl2 (by omega)).trans (hgc.out i h))
                    go_roundw
                    case rel => exact ⟨k + 1, cnt2 + 1, by go_num, by omega, by omega, HT4, HFT2, e0, e1, HG4, Nat.lt_trans hl1 HO4.out.1, Nat.lt_trans hl2 HO4.out.1⟩
                    case measure => simp [intOf]; omega
                  · have HF := Lib.hid (HY2.out (unfit hq hpq HJG.out))
                    have HEQ : ∀ w, (Op.equalIn 10000 60 (.agg #[.int .i64 p1, .int .i64 q1]) (.agg #[.int .i64 x, .int .i64 y])).run Tryd.prog w = .ok false w := fun w => by
                      have := st_eq (p1, q1) (x, y) w
                      rwa [decide_eq_false hpq] at this
                    have HTB3 := Lib.hid HTS3.out.bel
                    have hsw3 : w.heap.size ≤ wr.heap.size := by have := HTS3.out.lt; omega
                    clear hq hpq
                    go_wp2_with (first
                      | (at_lookup; refine look_some _ rfl _ _ rfl rfl (HMB.out _ (by (repeat' (first | (with_reducible exact Below.refl _ _) | (with_reducible assumption) | (with_reducible refine Below.alloc ?_ ?_ _) | (with_reducible refine below_drewN ?_ _) | (with_reducible refine below_drew ?_) | (with_reducible refine below_ext ?_ ?_ _ _) | (with_reducible refine Below.setCell ?_ ?_ _) | (simp; done) | (simp; omega) | omega)))) j rfl hj6 rfl HQ.out ?_))
                    go_ret2
                    exact (show ∃ x, _ from ⟨0, by rw [HF.out]; rfl, HTB3.out.trans (by (repeat' (first | (with_reducible exact Below.refl _ _) | (with_reducible assumption) | (with_reducible refine Below.alloc ?_ ?_ _) | (with_reducible refine below_drewN ?_ _) | (with_reducible refine below_drew ?_) | (with_reducible refine below_ext ?_ ?_ _ _) | (with_reducible refine Below.setCell ?_ ?_ _) | (simp; done) | (simp; omega) | omega))), fun r h => by rw [HF.out] at h; cases h⟩)
              · obtain rfl : k = gl := by omega
                have hki : ¬ (k : Int) < k := by omega
                have HTA := Lib.hid (show G.take k = G from List.take_of_length_le (by rw [← HLG.out]; exact Nat.le_refl _))
                have HF1 := Lib.hid (HY1.out (by rw [← HTA.out]; exact hft.out)).symm
                have HT2 := Lib.hid (show TS w fin wr cnt2 (put m G (x, y)) by rw [← HTA.out]; exact hts2.out)
                clear hts2 hft hgc
                go_wp2
                go_roundw
                case rel => exact ⟨i + 1, _, cnt2, _, by go_num, rfl, by omega, by omega, HT2, HS2, HF1⟩
                case measure => simp [intOf]; omega
        · have HF := Lib.hid (show R = none by
            rw [← HPR.out]
            refine step_no (.inr ⟨_, hmi, ?_⟩)
            rw [← hf]
            cases f with
            | false => exact .inl rfl
            | true => exact .inr fun h => hgo ⟨rfl, h⟩)
          have hgo2 : f = false ∨ (f = true ∧ decide (okA op a i len) = false) := by
            cases f with
            | false => exact .inl rfl
            | true => exact .inr ⟨rfl, decide_eq_false fun h => hgo ⟨rfl, h⟩⟩
          obtain ⟨al, hal⟩ : ∃ al, al = decide (okA op a i len) := ⟨_, rfl⟩
          rw [← hal] at HAL hgo2
          clear hf hmi HPR hts hsm hgo hb4 hal
          rcases hgo2 with rfl | ⟨rfl, rfl⟩
          all_goals
            go_wp2_with (first
              | (at_lookup; refine look_some _ rfl _ _ rfl rfl (HM.out _ (by (repeat' (first | (with_reducible exact Below.refl _ _) | (with_reducible assumption) | (with_reducible refine Below.alloc ?_ ?_ _) | (with_reducible refine below_drewN ?_ _) | (with_reducible refine below_drew ?_) | (with_reducible refine below_ext ?_ ?_ _ _) | (with_reducible refine Below.setCell ?_ ?_ _) | (simp; done) | (simp; omega) | omega)))) i rfl hi6 rfl HMI.out ?_)
              | (go_at_call 43; (with_reducible refine (HA.out _).mono ?_); rintro e w2 ⟨x, y, rfl, hb1, -⟩; obtain ⟨osA, dA, rfl⟩ := ext_of_below hb1; clear hb1)
              | (go_at_call 44; ((with_reducible refine (HAL.out _).mono ?_); rintro e w1 ⟨rfl, hb1⟩; obtain ⟨osB, dB, rfl⟩ := ext_of_below hb1; clear hb1)))
            go_ret2
            exact (show ∃ x, _ from ⟨0, by rw [HF.out]; rfl, HTB.out.trans (by (repeat' (first | (with_reducible exact Below.refl _ _) | (with_reducible assumption) | (with_reducible refine Below.alloc ?_ ?_ _) | (with_reducible refine below_drewN ?_ _) | (with_reducible refine below_drew ?_) | (with_reducible refine below_ext ?_ ?_ _ _) | (with_reducible refine Below.setCell ?_ ?_ _) | (simp; done) | (simp; omega) | omega))), fun r h => by rw [HF.out] at h; cases h⟩)
    · obtain rfl : i = len := by omega
      have HE := Lib.hid (show R = if m i = some (1, fin) then some hi else none by
        rw [← hpr.out, List.drop_eq_nil_of_le (by rw [← HL.out]; exact Nat.le_refl _)]; rfl)
      have HM := Lib.hid (fun w' (hb : Below wr.heap.size wr w') => hts.out.map.new hb)
      have hc1 := hts.out.c1
      have hltw : w.heap.size < wr.heap.size := by have := hts.out.lt; omega
      have HTB := Lib.hid hts.out.bel
      have hsw : w.heap.size ≤ wr.heap.size := by have := hts.out.lt; omega
      have hi6 : i ≤ 1000000 := by omega
      have hmg : Tryd.prog.eqGuardType Tryd.prog.depth 60 = false := by kernel_rfl
      clear hpr HL H2 hts hsm
      cases hmi : m i with
      | none =>
        rw [hmi] at HE
        have HF := Lib.hid (show R = none by rw [HE.out]; rfl)
        have HMI := Lib.hid hmi
        clear hmi HE
        go_wp2_with (first
          | (at_lookup; refine look_none _ rfl _ _ rfl rfl (HM.out _ (by (repeat' (first | (with_reducible exact Below.refl _ _) | (with_reducible assumption) | (with_reducible refine Below.alloc ?_ ?_ _) | (with_reducible refine below_drewN ?_ _) | (with_reducible refine below_drew ?_) | (with_reducible refine below_ext ?_ ?_ _ _) | (with_reducible refine Below.setCell ?_ ?_ _) | (simp; done) | (simp; omega) | omega)))) i rfl hi6 rfl HMI.out ?_))
        go_region
        all_goals
          go_wp2
          go_ret2
          exact (show ∃ x, _ from ⟨_, by rw [HF.out]; rfl, HTB.out.trans (by (repeat' (first | (with_reducible exact Below.refl _ _) | (with_reducible assumption) | (with_reducible refine Below.alloc ?_ ?_ _) | (with_reducible refine below_drewN ?_ _) | (with_reducible refine below_drew ?_) | (with_reducible refine below_ext ?_ ?_ _ _) | (with_reducible refine Below.setCell ?_ ?_ _) | (simp; done) | (simp; omega) | omega))), fun r h => by rw [HF.out] at h; cases h⟩)
      | some st =>
        obtain ⟨u, v⟩ := st
        have HMI := Lib.hid hmi
        obtain ⟨bb, hbb⟩ : ∃ bb, bb = decide ((u, v) = ((1, fin) : St)) := ⟨_, rfl⟩
        have HEQ := fun w' => st_eq (u, v) (1, fin) w'
        rw [← hbb] at HEQ
        rw [hmi] at HE
        have HF := Lib.hid (show R = if bb = true then some hi else none by
          rw [HE.out]
          by_cases e : (u, v) = ((1, fin) : St)
          · rw [hbb, decide_eq_true e, if_pos (by rw [e]), if_pos rfl]
          · rw [hbb, decide_eq_false e, if_neg (fun h => e (Option.some.inj h))]; rfl)
        clear hmi HE hbb
        cases bb with
        | true =>
          have HF2 := Lib.hid (show R = some hi by rw [HF.out]; rfl)
          clear HF
          go_wp2_with (first
            | (at_lookup; refine look_some _ rfl _ _ rfl rfl (HM.out _ (by (repeat' (first | (with_reducible exact Below.refl _ _) | (with_reducible assumption) | (with_reducible refine Below.alloc ?_ ?_ _) | (with_reducible refine below_drewN ?_ _) | (with_reducible refine below_drew ?_) | (with_reducible refine below_ext ?_ ?_ _ _) | (with_reducible refine Below.setCell ?_ ?_ _) | (simp; done) | (simp; omega) | omega)))) i rfl hi6 rfl HMI.out ?_))
          go_region
          all_goals
            go_wp2
            go_ret2
            exact (show ∃ x, _ from ⟨_, by rw [HF2.out]; rfl, HTB.out.trans (by (repeat' (first | (with_reducible exact Below.refl _ _) | (with_reducible assumption) | (with_reducible refine Below.alloc ?_ ?_ _) | (with_reducible refine below_drewN ?_ _) | (with_reducible refine below_drew ?_) | (with_reducible refine below_ext ?_ ?_ _ _) | (with_reducible refine Below.setCell ?_ ?_ _) | (simp; done) | (simp; omega) | omega))), fun r h => by rw [HF2.out] at h; exact Option.some.inj h⟩)
        | false =>
          have HF2 := Lib.hid (show R = none by rw [HF.out]; rfl)
          clear HF
          go_wp2_with (first
            | (at_lookup; refine look_some _ rfl _ _ rfl rfl (HM.out _ (by (repeat' (first | (with_reducible exact Below.refl _ _) | (with_reducible assumption) | (with_reducible refine Below.alloc ?_ ?_ _) | (with_reducible refine below_drewN ?_ _) | (with_reducible refine below_drew ?_) | (with_reducible refine below_ext ?_ ?_ _ _) | (with_reducible refine Below.setCell ?_ ?_ _) | (simp; done) | (simp; omega) | omega)))) i rfl hi6 rfl HMI.out ?_))
          go_region
          all_goals
            go_wp2
            go_ret2
            exact (show ∃ x, _ from ⟨_, by rw [HF2.out]; rfl, HTB.out.trans (by (repeat' (first | (with_reducible exact Below.refl _ _) | (with_reducible assumption) | (with_reducible refine Below.alloc ?_ ?_ _) | (with_reducible refine below_drewN ?_ _) | (with_reducible refine below_drew ?_) | (with_reducible refine below_ext ?_ ?_ _ _) | (with_reducible refine Below.setCell ?_ ?_ _) | (simp; done) | (simp; omega) | omega))), fun r h => by rw [HF2.out] at h; cases h⟩)
def finN (b : Bool) : Int := if b then 1 else 0
/-- what the check comes to -/
def verO (l : List (Int × Int)) (b : Bool) : Option Int := docR l.length (finN b) l 0 (W0 (finN b)) 0
def verV (l : List (Int × Int)) (b : Bool) : Int := if 600 < l.length then 0 else (verO l b).getD 0
def verE (l : List (Int × Int)) (b : Bool) : Int := if 600 < l.length then 6 else if (verO l b).isSome then 0 else 2
set_option maxRecDepth 100000 in
theorem verify_any (l : List InsD) (b : Bool) (n : Nat) (w : World) (v : Value) (hv : RL 8 insE n w v l) (hn : n ≤ w.heap.size) :
    Calls Tryd.prog 16 #[v, .bool b] w fun e w' => e = .returned (.tuple #[.int .i64 (verV (l.map two) b), .int .i64 (verE (l.map two) b)]) ∧ Below w.heap.size w w' := by
  have HTR := Lib.hid (fun (hl : l.length ≤ 600) w' (hb : Below w.heap.size w w') => traverse_any l (finN b) (by unfold finN; split <;> omega) (by unfold finN; split <;> omega) n w' v (hv.keep (hb.mono hn)) (Nat.le_trans hn hb.size) hl)
  have HEQ := Lib.hid (show progR l.length (finN b) (l.map two) 0 (m0 (finN b)) 0 = verO (l.map two) b by
    unfold verO
    have := same_run (finN b) (l.map two)
    rw [List.length_map] at this ⊢
    exact this)
  obtain ⟨p, c, rfl, -⟩ := hv
  obtain ⟨len, hlen⟩ : ∃ len, len = l.length := ⟨_, rfl⟩
  obtain ⟨O, hO⟩ : ∃ O, O = verO (l.map two) b := ⟨_, rfl⟩
  have HV := Lib.hid (show verV (l.map two) b = if 600 < len then 0 else O.getD 0 by unfold verV; rw [List.length_map, ← hlen, hO])
  have HE := Lib.hid (show verE (l.map two) b = if 600 < len then 6 else if O.isSome then 0 else 2 by unfold verE; rw [List.length_map, ← hlen, hO])
  rw [← hO] at HEQ
  rw [← hlen] at HTR HEQ ⊢
  generalize verV (l.map two) b = vv at HV ⊢
  generalize verE (l.map two) b = ve at HE ⊢
  clear hO hn
  by_cases hl : 600 < len
  · have HV2 := Lib.hid (show vv = 0 by rw [HV.out, if_pos hl])
    have HE2 := Lib.hid (show ve = 6 by rw [HE.out, if_pos hl])
    have hli : (600 : Int) < (len : Int) := by omega
    clear HTR HV HE hlen HEQ
    go_enter Tryd.func16, Tryd.ntmps16
    go_wp2
    go_ret2
    exact ⟨by rw [HV2.out, HE2.out]; rfl, by (repeat' (first | (with_reducible exact Below.refl _ _) | (with_reducible assumption) | (with_reducible refine Below.alloc ?_ ?_ _) | (with_reducible refine below_drewN ?_ _) | (with_reducible refine below_drew ?_) | (with_reducible refine below_ext ?_ ?_ _ _) | (with_reducible refine Below.setCell ?_ ?_ _) | (simp; done) | (simp; omega) | omega))⟩
  · have hl6 : len ≤ 600 := by omega
    have HTR2 := Lib.hid (HTR.out hl6)
    rw [HEQ.out] at HTR2
    have HTR3 := Lib.hid (show ∀ f, finN b = f → ∀ w', Below w.heap.size w w' → Calls Tryd.prog 29 #[.slice p len c, .agg #[.int .i64 0, .int .i64 f]] w' fun e w'' => TrQ O w' e w'' from fun f h => h ▸ HTR2.out)
    have hli : ¬ (600 : Int) < (len : Int) := by omega
    rw [if_neg hl] at HV HE
    clear HTR hlen HEQ hl
    cases O with
    | none =>
      have HV2 := Lib.hid (show vv = 0 from HV.out)
      have HE2 := Lib.hid (show ve = 2 from HE.out)
      clear HV HE
      obtain ⟨f, hf⟩ : ∃ f, f = finN b := ⟨_, rfl⟩
      have HTR4 := Lib.hid (HTR3.out f hf.symm)
      clear HTR2 HTR3
      cases b
      all_goals
        unfold finN at hf
        simp at hf
        subst hf
        go_enter Tryd.func16, Tryd.ntmps16
        go_wp2_with (first
          | (go_at_call 29; (with_reducible refine (HTR4.out _ (by (repeat' (first | (with_reducible exact Below.refl _ _) | (with_reducible assumption) | (with_reducible refine Below.alloc ?_ ?_ _) | (with_reducible refine below_drewN ?_ _) | (with_reducible refine below_drew ?_) | (with_reducible refine below_ext ?_ ?_ _ _) | (with_reducible refine Below.setCell ?_ ?_ _) | (simp; done) | (simp; omega) | omega)))).mono ?_); rintro e w2 ⟨x, rfl, hb1, -⟩; obtain ⟨osA, dA, rfl⟩ := ext_of_below hb1; clear hb1))
        go_ret2
        exact ⟨by rw [HV2.out, HE2.out]; rfl, by (repeat' (first | (with_reducible exact Below.refl _ _) | (with_reducible assumption) | (with_reducible refine Below.alloc ?_ ?_ _) | (with_reducible refine below_drewN ?_ _) | (with_reducible refine below_drew ?_) | (with_reducible refine below_ext ?_ ?_ _ _) | (with_reducible refine Below.setCell ?_ ?_ _) | (simp; done) | (simp; omega) | omega))⟩
    | some r =>
      have HV2 := Lib.hid (show vv = r from HV.out)
      have HE2 := Lib.hid (show ve = 0 from HE.out)
      clear HV HE
      obtain ⟨f, hf⟩ : ∃ f, f = finN b := ⟨_, rfl⟩
      have HTR4 := Lib.hid (HTR3.out f hf.symm)
      clear HTR2 HTR3
      cases b
      all_goals
        unfold finN at hf
        simp at hf
        subst hf
        go_enter Tryd.func16, Tryd.ntmps16
        go_wp2_with (first
          | (go_at_call 29; (with_reducible refine (HTR4.out _ (by (repeat' (first | (with_reducible exact Below.refl _ _) | (with_reducible assumption) | (with_reducible refine Below.alloc ?_ ?_ _) | (with_reducible refine below_drewN ?_ _) | (with_reducible refine below_drew ?_) | (with_reducible refine below_ext ?_ ?_ _ _) | (with_reducible refine Below.setCell ?_ ?_ _) | (simp; done) | (simp; omega) | omega)))).mono ?_); rintro e w2 ⟨x, rfl, hb1, hx⟩; obtain rfl := hx r rfl; obtain ⟨osA, dA, rfl⟩ := ext_of_below hb1; clear hb1 hx))
        go_ret2
        exact ⟨by rw [HV2.out, HE2.out]; rfl, by (repeat' (first | (with_reducible exact Below.refl _ _) | (with_reducible assumption) | (with_reducible refine Below.alloc ?_ ?_ _) | (with_reducible refine below_drewN ?_ _) | (with_reducible refine below_drew ?_) | (with_reducible refine below_ext ?_ ?_ _ _) | (with_reducible refine Below.setCell ?_ ?_ _) | (simp; done) | (simp; omega) | omega))⟩
end Go.Proofs.YtpgfgaloagdogaaDoor
