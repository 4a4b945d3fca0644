/-
  DocVerify.
-/
import Derived.Test.YtkfkdlneafeglaaDoorCodF
import Derived.Test.YtkfkdlneafeglaaDoorOw
import Derived.Deep.OwnRows
import Derived.Deep.CutRange
import Derived.Deep.CutBlock
import Derived.Deep.DeepCutAuto
import Derived.Deep.RegionLaw
namespace Go.Proofs.YtkfkdlneafeglaaDoor
open Go.RowKit Go.Maps Go.WideMaps Vm
attribute [local go_sem] setCell_drewN cell?_ext frozen?_ext shape?_ext setCell_ext lt_1' ne_1' en_1' le_1' lt_2' ne_2' en_2' le_2' lt_3' ne_3' en_3' le_3' lt_4' ne_4' en_4' le_4' lt_5' ne_5' en_5' le_5' lt_6' ne_6' en_6' le_6' lt_7' ne_7' en_7' le_7' lt_8' ne_8' en_8' le_8' lt_9' ne_9' en_9' le_9' lt_10' ne_10' en_10' le_10' lt_11' ne_11' en_11' le_11' lt_12' ne_12' en_12' le_12'

theorem infoWl : (Tryd.prog.info? 59).map (fun i => (i.zero, i.size, i.bytes)) = some (some (.slice none 0 0), 1, 24) := by kernel_rfl
theorem make_ways (n : Nat) (hn : n ≤ 1000000) : ∀ w, (Instr.makeSlice 58 (.int .i64 (n : Int)) (.int .i64 (n : Int))).run Tryd.prog w = .ok (.slice (some ⟨w.heap.size, 0, none⟩) n n) (w.alloc (.cells (madeCells #[.slice none 0 0] n) 59)) :=
  fun w => run_make_row' 58 59 (.slice none 0 0) 24 Tryd.underlying58 infoWl rfl .i64 .i64 n (by omega) (by omega) w
/-- the lists of ways, and what began, in memory -/
structure WS (w : World) (fin : Int) (N : Nat) (wr : World) (W : Nat → List St) : Prop where
  row : OW wK wE wr (w.heap.size + 1) N W
  c1 : wr.cell? ⟨w.heap.size, 1, none⟩ = some (.int .i64 fin)
  bel : Below w.heap.size w wr
  lt : w.heap.size + 1 < wr.heap.size
theorem WS.new {w wr w' : World} {fin : Int} {N : Nat} {W : Nat → List St} (h : WS w fin N wr W) (hb : Below wr.heap.size wr w') : WS w fin N w' W :=
  ⟨h.row.new hb, by rw [hb.cell (p := ⟨w.heap.size, 1, none⟩) (by have := h.lt; show w.heap.size < wr.heap.size; omega)]; exact h.c1, h.bel.trans (hb.mono (by have := h.lt; omega)), Nat.lt_of_lt_of_le h.lt hb.size⟩
theorem WS.put {w wr w' : World} {fin : Int} {N : Nat} {W W' : Nat → List St} (h : WS w fin N wr W) (hr : OW wK wE w' (w.heap.size + 1) N W') (ho : Ot (fun k => w.heap.size + 1 ≤ k) wr w') : WS w fin N w' W' :=
  ⟨hr, by rw [ho.cell (by have := h.lt; omega) (by show ¬ w.heap.size + 1 ≤ w.heap.size; omega)]; exact h.c1, h.bel.trans (ho.below (by have := h.lt; omega) (fun k hk => by have : w.heap.size + 1 ≤ k := hk; omega)), Nat.lt_of_lt_of_le h.lt ho.size⟩
/-- how a state goes on -/
theorem doc_no {len : Nat} {fin : Int} {op a : Int} {r : List (Int × Int)} {i : Nat} {W : Nat → List St} {most : Int} (h : takes op a = none ∨ alike (W i) = false ∨ ∃ t, takes op a = some t ∧ ¬ okAt len op a i t ((W i).headD (0, 0))) : docR len fin ((op, a) :: r) i W most = none := by
  unfold docR
  rcases h with h | h | ⟨t, h, h2⟩
  · rw [h]
  · cases takes op a with
    | none => rfl
    | some t => simp only; rw [h]; simp
  · rw [h]
    simp only
    rw [if_neg fun e => h2 e.2]
theorem doc_yes {len : Nat} {fin : Int} {op a : Int} {r : List (Int × Int)} {i : Nat} {W : Nat → List St} {most : Int} {t : Int × Int × Int × Int} {s : St} (h : takes op a = some t) (ha : alike (W i) = true) (hs : (W i).headD (0, 0) = s) (ho : okAt len op a i t s) :
    docR len fin ((op, a) :: r) i W most = docR len fin r (i + 1) (push W op a i (nxt t s)) (max most s.1) := by
  conv => lhs; unfold docR
  rw [h]
  simp only
  rw [hs, if_pos ⟨ha, ho⟩]
/-- all ways so far are short, and few -/
def Few2 (i : Nat) (W : Nat → List St) : Prop := ∀ j, (W j).length ≤ 2 * i + 1 ∧ ∀ s ∈ W j, 0 ≤ s.1 ∧ s.1 ≤ i ∧ -(i : Int) ≤ s.2 ∧ s.2 ≤ i + 1
theorem few_push {i : Nat} {W : Nat → List St} (h : Few2 i W) (op a : Int) {s : St} (h0 : 0 ≤ s.1 ∧ s.1 ≤ i + 1 ∧ -((i : Int) + 1) ≤ s.2 ∧ s.2 ≤ i + 2) : Few2 (i + 1) (push W op a i s) := fun j => by
  unfold push
  refine ⟨?_, fun u hu => ?_⟩
  · have := (h j).1
    have h1 : (if jmp op ∧ j = a.toNat then [s] else []).length ≤ 1 := by split <;> simp
    have h2 : (if op ≠ 101 ∧ j = i + 1 then [s] else []).length ≤ 1 := by split <;> simp
    simp only [List.length_append]
    omega
  · have hs : u = s → 0 ≤ u.1 ∧ u.1 ≤ ((i + 1 : Nat) : Int) ∧ -((i + 1 : Nat) : Int) ≤ u.2 ∧ u.2 ≤ ((i + 1 : Nat) : Int) + 1 := fun e => by subst e; omega
    rcases List.mem_append.1 hu with hu | hu
    · have := (h j).2 u hu; omega
    · rcases List.mem_append.1 hu with hu | hu
      · split at hu
        · exact hs (by simpa using hu)
        · cases hu
      · split at hu
        · exact hs (by simpa using hu)
        · cases hu
theorem takes_le {op a : Int} {t : Int × Int × Int × Int} (h : takes op a = some t) : 0 ≤ t.1 ∧ 0 ≤ t.2.1 ∧ t.2.1 ≤ 1 ∧ -1 ≤ t.2.2.1 ∧ t.2.2.1 ≤ 1 ∧ 0 ≤ a := by
  by_cases hb : okB op a
  · rw [takes_off hb] at h
    cases hof : offN op a with
    | none => rw [hof] at h; cases h
    | some n =>
      rw [hof] at h
      injection h with h
      subst h
      exact ⟨off_pos (okB_pos hb) hof, (onN_le op).1, (onN_le op).2, (turnN_le op).1, (turnN_le op).2, okB_pos hb⟩
  · rw [takes_no hb] at h; cases h
theorem few_W0 {fin : Int} (h0 : 0 ≤ fin) (h1 : fin ≤ 1) : Few2 0 (W0 fin) := fun j => by
  unfold W0
  split
  · exact ⟨by simp, fun s hs => by simp at hs; subst hs; simp only; omega⟩
  · exact ⟨by simp, fun s hs => by cases hs⟩
theorem ws_start (w : World) (fin : Int) (N : Nat) (hN : 0 < N) : WS w fin N (((((w.alloc (.cells #[.int .i64 0, .int .i64 fin] 57)).alloc (.cells (madeCells #[.slice none 0 0] N) 59)).alloc (.cells #[.int .i64 0, .int .i64 fin] 57))).setCell ⟨w.heap.size + 1, 0, none⟩ (.slice (some ⟨w.heap.size + 1 + 1, 0, none⟩) 1 1)) (W0 fin) := by
  obtain ⟨w1, hw1⟩ : ∃ w1, w1 = w.alloc (.cells #[.int .i64 0, .int .i64 fin] 57) := ⟨_, rfl⟩
  have h1 : w1.heap.size = w.heap.size + 1 := by rw [hw1]; simp
  have hc1 : w1.cell? ⟨w.heap.size, 1, none⟩ = some (.int .i64 fin) := by rw [hw1]; simp
  have hb1 : Below w.heap.size w w1 := by rw [hw1]; exact (Below.refl _ _).alloc (Nat.le_refl _) _
  rw [← hw1]
  have hr := Vr.made w1 59 (.slice none 0 0) N
  rw [h1] at hr
  obtain ⟨w2, hw2⟩ : ∃ w2, w2 = w1.alloc (.cells (madeCells #[.slice none 0 0] N) 59) := ⟨_, rfl⟩
  have h2 : w2.heap.size = w.heap.size + 1 + 1 := by rw [hw2]; simp [h1]
  have hc2 : w2.cell? ⟨w.heap.size, 1, none⟩ = some (.int .i64 fin) := by rw [hw2, World.cell?_of_block (a := ⟨w.heap.size, 1, none⟩) (heap_alloc_old w1 _ (by show w.heap.size < w1.heap.size; omega))]; exact hc1
  have hb2 : Below w.heap.size w w2 := by rw [hw2]; exact hb1.alloc (by omega) _
  rw [← hw2] at hr ⊢
  have ho := OL.one (K := wK) (enc := wE) wE_cells w2 (w.heap.size + 1 + 1) (by omega) (0, fin)
  rw [h2] at ho
  have e1 : (wE (0, fin)).toArray = #[Value.int .i64 0, Value.int .i64 fin] := rfl
  rw [e1] at ho
  obtain ⟨w3, hw3⟩ : ∃ w3, w3 = w2.alloc (.cells #[.int .i64 0, .int .i64 fin] 57) := ⟨_, rfl⟩
  have h3 : w3.heap.size = w.heap.size + 1 + 1 + 1 := by rw [hw3]; simp [h2]
  have hc3 : w3.cell? ⟨w.heap.size, 1, none⟩ = some (.int .i64 fin) := by rw [hw3, World.cell?_of_block (a := ⟨w.heap.size, 1, none⟩) (heap_alloc_old w2 _ (by show w.heap.size < w2.heap.size; omega))]; exact hc2
  have hb3 : Below w.heap.size w w3 := by rw [hw3]; exact hb2.alloc (by omega) _
  have hr3 : Vr w3 (w.heap.size + 1) N (fun _ => .slice none 0 0) := by rw [hw3]; exact hr.new ((Below.refl _ _).alloc (Nat.le_refl _) _)
  have ho3 : OL wK wE (w.heap.size + 1 + 1) w3 (.slice (some ⟨w.heap.size + 1 + 1, 0, none⟩) 1 1) [(0, fin)] := by rw [hw3]; exact ho
  rw [← hw3]
  have hset : Ot (· = w.heap.size + 1) w3 (w3.setCell ⟨w.heap.size + 1, 0, none⟩ (.slice (some ⟨w.heap.size + 1 + 1, 0, none⟩) 1 1)) := (Ot.refl (· = w.heap.size + 1) w3).set ⟨w.heap.size + 1, 0, none⟩ (.inl rfl) _
  refine ⟨⟨upd (fun _ => .slice none 0 0) 0 (.slice (some ⟨w.heap.size + 1 + 1, 0, none⟩) 1 1), hr3.store 0 _ hN, fun j hj => ?_, fun i j hi hj hij k hk => ?_⟩, ?_, ?_, ?_⟩
  · unfold upd W0
    by_cases e : j = 0
    · rw [if_pos e, if_pos e]
      exact OL.kept ho3 hset (fun k hk e2 => by
        have h9 : w.heap.size + 1 + 1 = k := Option.some.inj hk
        omega)
    · rw [if_neg e, if_neg e]
      exact OL.nil _ _ _ _
  · unfold upd at hk ⊢
    by_cases e : i = 0
    · rw [if_neg (by omega)]; intro h; cases h
    · rw [if_neg e] at hk; cases hk
  · rw [hset.cell (by omega) (by show ¬ w.heap.size = w.heap.size + 1; omega)]; exact hc3
  · exact hb3.trans (hset.below (by omega) (fun k hk => by have : k = w.heap.size + 1 := hk; omega))
  · rw [World.size_setCell]; omega
theorem ws_start2 (w : World) (fin : Int) (N : Nat) (hN : 0 < N) : WS w fin N ((((w.alloc (.cells #[.int .i64 0, .int .i64 fin] 57)).alloc (.cells ((madeCells #[.slice none 0 0] N).setIfInBounds 0 (.slice (some ⟨w.heap.size + 1 + 1, 0, none⟩) 1 1)) 59)).alloc (.cells #[.int .i64 0, .int .i64 fin] 57))) (W0 fin) := by
  have h := ws_start w fin N hN
  have e : (((((w.alloc (.cells #[.int .i64 0, .int .i64 fin] 57)).alloc (.cells (madeCells #[.slice none 0 0] N) 59)).alloc (.cells #[.int .i64 0, .int .i64 fin] 57))).setCell ⟨w.heap.size + 1, 0, none⟩ (.slice (some ⟨w.heap.size + 1 + 1, 0, none⟩) 1 1)) = ((((w.alloc (.cells #[.int .i64 0, .int .i64 fin] 57)).alloc (.cells ((madeCells #[.slice none 0 0] N).setIfInBounds 0 (.slice (some ⟨w.heap.size + 1 + 1, 0, none⟩) 1 1)) 59)).alloc (.cells #[.int .i64 0, .int .i64 fin] 57))) := by
    go_simp
  rwa [e] at h
/-- one more way to a place -/
theorem WS.push {w wA wB : World} {fin : Int} {N x : Nat} {W : Nat → List St} (h : WS w fin N wA W) (hb : Below wA.heap.size wA wB) (hx : x < N) (s : St) :
    ∃ v', wB.cell? ⟨w.heap.size + 1, x, none⟩ = some v' ∧ OL wK wE (w.heap.size + 1 + 1) wB v' (W x) ∧ (∀ w2, Ot (fun k => v'.ownBlock = some k) wB w2 → w2.cell? ⟨w.heap.size + 1, x, none⟩ = some v' ∧ w2.frozen? ⟨w.heap.size + 1, x, none⟩ = false) ∧
      (∀ k, v'.ownBlock = some k → w.heap.size + 1 + 1 ≤ k ∧ k < wA.heap.size) ∧
      (∀ g2 cap2 w2, OL wK wE (w.heap.size + 1 + 1) w2 (.slice (some ⟨g2, 0, none⟩) ((W x).length + 1) cap2) (W x ++ [s]) → Ot (fun k => v'.ownBlock = some k) wB w2 → (v'.ownBlock = some g2 ∨ wB.heap.size ≤ g2) →
        WS w fin N (w2.setCell ⟨w.heap.size + 1, x, none⟩ (.slice (some ⟨g2, 0, none⟩) ((W x).length + 1) cap2)) (fun t => if t = x then W x ++ [s] else W t) ∧
        (∀ g j, g < wB.heap.size → g ≠ w.heap.size + 1 → v'.ownBlock ≠ some g → (w2.setCell ⟨w.heap.size + 1, x, none⟩ (.slice (some ⟨g2, 0, none⟩) ((W x).length + 1) cap2)).cell? ⟨g, j, none⟩ = wB.cell? ⟨g, j, none⟩) ∧
        wB.heap.size ≤ (w2.setCell ⟨w.heap.size + 1, x, none⟩ (.slice (some ⟨g2, 0, none⟩) ((W x).length + 1) cap2)).heap.size ∧
        (∀ y, y < N → ∀ v2, (w2.setCell ⟨w.heap.size + 1, x, none⟩ (.slice (some ⟨g2, 0, none⟩) ((W x).length + 1) cap2)).cell? ⟨w.heap.size + 1, y, none⟩ = some v2 → ∀ k, v2.ownBlock = some k → k < wA.heap.size ∨ wB.heap.size ≤ k)) := by
  obtain ⟨v', h1, h2, h3, h4, h5, h6⟩ := h.row.at hx
  have hlt := h.lt
  have hsz := hb.size
  have hown : ∀ k, v'.ownBlock = some k → w.heap.size + 1 + 1 ≤ k ∧ k < wA.heap.size := fun k hk => World.ownsRow.lt h2 k hk
  have hOt : ∀ w2, Ot (fun k => v'.ownBlock = some k) wB w2 → Ot (fun k => v'.ownBlock = some k) wA w2 := fun w2 ho => (Ot.of_new hb).trans ho
  refine ⟨v', (hb.cell (p := ⟨w.heap.size + 1, x, none⟩) hlt).trans h1, OL.new h2 hb, fun w2 ho => h5 w2 (hOt w2 ho), hown, fun g2 cap2 w2 hob hoth hat => ?_⟩
  obtain ⟨q1, q2⟩ := h6 s g2 cap2 w2 hob (hOt w2 hoth) (hat.imp id (fun e => Nat.le_trans hsz e))
  refine ⟨h.put q1 (q2.more fun k _ hk => ?_), fun g j hg hne hno => ?_, ?_, fun y hy v2 hv2 k hk => ?_⟩
  · rcases hk with hk | hk
    · show w.heap.size + 1 ≤ k; omega
    · have := (hown k hk).1; show w.heap.size + 1 ≤ k; omega
  · have hset : Ot (· = w.heap.size + 1) w2 (w2.setCell ⟨w.heap.size + 1, x, none⟩ (.slice (some ⟨g2, 0, none⟩) ((W x).length + 1) cap2)) := (Ot.refl (· = w.heap.size + 1) w2).set ⟨w.heap.size + 1, x, none⟩ (.inl rfl) _
    rw [hset.cell (Nat.lt_of_lt_of_le hg hoth.size) hne, hoth.cell hg hno]
  · rw [World.size_setCell]; exact hoth.size
  · by_cases e : y = x
    · subst e
      rw [World.cell?_setCell_same w2 _ _ (h5 w2 (hOt w2 hoth)).1] at hv2
      injection hv2 with hv2
      subst hv2
      obtain rfl : g2 = k := Option.some.inj hk
      rcases hat with ha | ha
      · exact .inl (hown g2 ha).2
      · exact .inr ha
    · obtain ⟨vy, y1, y2, -⟩ := h.row.at hy
      rw [World.cell?_setCell_other w2 _ _ _ (by intro e2; injection e2 with _ e3 _; exact e e3.symm), (hOt w2 hoth).cell hlt (fun e2 => by have := (hown _ e2).1; omega), y1] at hv2
      injection hv2 with hv2
      subst hv2
      exact .inl (World.ownsRow.lt y2 k hk).2
theorem WS.congr {w wr : World} {fin : Int} {N : Nat} {W W' : Nat → List St} (h : WS w fin N wr W) (e : ∀ j, W j = W' j) : WS w fin N wr W' := ⟨h.row.congr fun j _ => e j, h.c1, h.bel, h.lt⟩
theorem push_jump {W : Nat → List St} {i k : Nat} {s : St} (j : Nat) : (if j = k then W k ++ [s] else W j) = Vm.push W 101 (k : Int) i s j := by
  unfold Vm.push
  rw [if_neg (show ¬ ((101 : Int) ≠ 101 ∧ j = i + 1) from fun h => h.1 rfl)]
  by_cases e : j = k
  · subst e; rw [if_pos rfl, if_pos ⟨.inl rfl, by simp⟩]; simp
  · rw [if_neg e, if_neg (fun h => e (by have := h.2; simpa using this))]; simp
theorem push_plain {W : Nat → List St} {i : Nat} {op a : Int} {s : St} (h : ¬ jmp op) (j : Nat) : (if j = i + 1 then W (i + 1) ++ [s] else W j) = Vm.push W op a i s j := by
  unfold Vm.push
  rw [if_neg (show ¬ (jmp op ∧ j = a.toNat) from fun e => h e.1)]
  by_cases e : j = i + 1
  · subst e; rw [if_pos rfl, if_pos ⟨fun e => h (.inl e), rfl⟩]; simp
  · rw [if_neg e, if_neg (fun h => e h.2)]; simp
theorem push_both {W : Nat → List St} {i k : Nat} {s : St} (j : Nat) : (if j = i + 1 then (if i + 1 = k then W k ++ [s] else W (i + 1)) ++ [s] else (if j = k then W k ++ [s] else W j)) = Vm.push W 102 (k : Int) i s j := by
  unfold Vm.push
  by_cases e2 : j = k
  · subst e2
    rw [if_pos (show jmp 102 ∧ j = ((j : Nat) : Int).toNat from ⟨.inr rfl, by simp⟩)]
    by_cases e : j = i + 1
    · subst e; rw [if_pos rfl, if_pos rfl, if_pos ⟨by decide, rfl⟩]; simp
    · rw [if_neg e, if_pos rfl, if_neg (fun h => e h.2)]; simp
  · rw [if_neg (show ¬ (jmp 102 ∧ j = ((k : Nat) : Int).toNat) from fun h => e2 (by have := h.2; simpa using this)), if_neg e2]
    by_cases e : j = i + 1
    · subst e; rw [if_pos rfl, if_neg e2, if_pos ⟨by decide, rfl⟩]; simp
    · rw [if_neg e, if_neg (fun h => e h.2)]; simp
/-- how DocVerify ends -/
def DvQ (O : Option Int) (w : World) (e : Ending) (w' : World) : Prop := e = .returned (.tuple #[.int .i64 (O.getD 0), .int .i64 (if O.isSome then 0 else 2)]) ∧ Below w.heap.size w w'
theorem DvQ.no {O : Option Int} {w w' : World} (h : O = none) (hb : Below w.heap.size w w') : DvQ O w (.returned (.tuple #[.int .i64 0, .int .i64 2])) w' := by subst h; exact ⟨rfl, hb⟩
theorem DvQ.yes {O : Option Int} {w w' : World} {r : Int} (h : O = some r) (hb : Below w.heap.size w w') : DvQ O w (.returned (.tuple #[.int .i64 r, .int .i64 0])) w' := by subst h; exact ⟨rfl, hb⟩
set_option maxRecDepth 100000 in
set_option maxHeartbeats 8000000 in
theorem docverify_any (l : List InsD) (b : Bool) (n : Nat) (w : World) (v : Value) (hv : RL 8 insE n w v l) (hn : n ≤ w.heap.size) (hl : l.length ≤ 600) :
    Calls Tryd.prog 14 #[v, .bool b] w fun e w' => DvQ (verO (l.map two) b) w e w' := by
  obtain ⟨p, c, rfl, h2⟩ := hv
  have H2 := Lib.hid h2
  have HN := Lib.hid hn
  obtain ⟨len, hlen⟩ : ∃ len, len = l.length := ⟨_, rfl⟩
  have HL := Lib.hid hlen
  obtain ⟨fin, hfin⟩ : ∃ fin, fin = finN b := ⟨_, rfl⟩
  obtain ⟨O, hO⟩ : ∃ O, O = verO (l.map two) b := ⟨_, rfl⟩
  have HO := Lib.hid (show docR len fin (l.map two) 0 (W0 fin) 0 = O by rw [hO, hfin, hlen]; unfold verO; rw [List.length_map])
  rw [← hO]
  rw [← hlen] at hl ⊢
  have hmk : ∀ w, (Instr.makeSlice 58 (.int .i64 ((len : Int) + 1)) (.int .i64 ((len : Int) + 1))).run Tryd.prog w = .ok (.slice (some ⟨w.heap.size, 0, none⟩) (len + 1) (len + 1)) (w.alloc (.cells (madeCells #[.slice none 0 0] (len + 1)) 59)) := by
    have := make_ways (len + 1) (by omega)
    rwa [Int.natCast_add, Int.natCast_one] at this
  have W1 : IntKind.i64.wrap ((len : Int) + 1) = (len : Int) + 1 := IntWalk.i64_in _ (by omega)
  have HWS := Lib.hid (show ∀ f : Int, fin = f → WS w fin (len + 1) ((((w.alloc (.cells #[.int .i64 0, .int .i64 f] 57)).alloc (.cells ((madeCells #[.slice none 0 0] (len + 1)).setIfInBounds 0 (.slice (some ⟨w.heap.size + 1 + 1, 0, none⟩) 1 1)) 59)).alloc (.cells #[.int .i64 0, .int .i64 f] 57))) (W0 fin) from fun f h => h ▸ ws_start2 w fin (len + 1) (by omega))
  have HFW := Lib.hid (few_W0 (fin := fin) (by rw [hfin]; unfold finN; split <;> omega) (by rw [hfin]; unfold finN; split <;> omega))
  have hl6 : ¬ (600 : Int) < (len : Int) := by omega
  have h0l : (0 : Int) < (len : Int) + 1 := by omega
  clear h2 hn hlen hO
  have hz0 : (madeCells #[Value.slice none 0 0] (len + 1))[0]? = some (.slice none 0 0) := by simp [madeCells]
  have hmg : Tryd.prog.eqGuardType Tryd.prog.depth 57 = false := by kernel_rfl
  have HW0 := Lib.hid (HWS.out fin rfl)
  have HFB := Lib.hid hfin
  clear hfin HWS
  go_enter Tryd.func14, Tryd.ntmps14
  go_upto_if 21 with fail
  go_cut [] from 21 to 22 (fun wx => wx = w.alloc (.cells #[.int .i64 0, .int .i64 fin] 57))
  case first =>
    cases b
    all_goals
      go_wp2_with fail
      go_meet
      exact (by rw [HFB.out]; rfl)
  case rest =>
    subst hcut
    go_wp2
    go_loopw [8, 9] (fun z y wr => ∃ (i : Nat) (most : Int) (W : Nat → List St), y = .int .i64 i ∧ z = .int .i64 most ∧ i ≤ len ∧ Hid (WS w fin (len + 1) wr W) ∧ Hid (Few2 i W) ∧ Hid (docR len fin ((l.drop i).map two) i W most = O)) (fun _ y _ => len - (intOf y).toNat)
    case atStart => exact ⟨0, 0, W0 fin, rfl, rfl, Nat.zero_le _, HW0, HFW, HO⟩
    case round =>
      obtain ⟨i, most, W, rfl, rfl, hil, hws, hfw, hpr⟩ := hrel
      clear HW0 HFW HO hz0 hmk
      by_cases hlt : i < len
      · have hlti : (i : Int) < (len : Int) := by omega
        have hlti2 : (i : Int) < (len : Int) + 1 := by omega
        have hil2 : i < l.length := by rw [← HL.out]; exact hlt
        obtain ⟨g, o, rfl, hg, hc⟩ := H2.out (by omega)
        have hc2 : ∀ j (h : j < l.length) i u, (insE l[j])[i]? = some u → wr.cell? ⟨g, o + j * 8 + i, none⟩ = some u := fun j hj i u hu => by
          rw [hws.out.bel.cell (p := ⟨g, _, none⟩) (Nat.lt_of_lt_of_le hg HN.out)]; exact hc j hj i u hu
        obtain ⟨op, a, t, neg, hh, ll, s, day, he, x0, x1, x2, x3, x4, x5, x6, x7⟩ := ins_cells hc2 i hil2
        have hdrop : (l.drop i).map two = (op, a) :: (l.drop (i + 1)).map two := by
          rw [List.drop_eq_getElem_cons hil2, List.map_cons, he]
        have HPR := Lib.hid (show docR len fin ((op, a) :: (l.drop (i + 1)).map two) i W most = O by rw [← hdrop]; exact hpr.out)
        have HBE := Lib.hid hws.out.bel
        have hsw : w.heap.size ≤ wr.heap.size := by have := hws.out.lt; omega
        have hgw : g < wr.heap.size := Nat.lt_of_lt_of_le hg (Nat.le_trans HN.out hsw)
        have HTK := Lib.hid (fun w' => takes_any op a t neg hh ll s day w')
        have W2 : IntKind.i64.wrap ((i : Int) + 1) = (i : Int) + 1 := IntWalk.i64_in _ (by omega)
        clear hc hc2 he hdrop hpr hil2
        cases htk : takes op a with
        | none =>
          have HF := Lib.hid (show O = none by rw [← HPR.out]; exact doc_no (.inl htk))
          rw [htk] at HTK
          clear htk HPR hws hfw
          go_wp2_with (go_at_call 24; (with_reducible refine (HTK.out _).mono ?_); rintro e w2 ⟨rfl, hb1⟩; obtain ⟨osA, dA, rfl⟩ := ext_of_below hb1; clear hb1)
          go_ret2
          exact DvQ.no HF.out (HBE.out.trans (by (repeat' (first | (with_reducible exact Below.refl _ _) | (with_reducible assumption) | (with_reducible refine Below.alloc ?_ ?_ _) | (with_reducible refine below_drewN ?_ _) | (with_reducible refine below_drew ?_) | (with_reducible refine below_ext ?_ ?_ _ _) | (with_reducible refine Below.setCell ?_ ?_ _) | (simp; done) | (simp; omega) | omega))))
        | some tt =>
          obtain ⟨off, on, turn, ask⟩ := tt
          have hle := takes_le htk
          simp only at hle
          obtain ⟨v, hv1, hv2, hv3, hv4, hv5, hv6⟩ := hws.out.row.at (x := i) (by omega)
          have HTK2 := Lib.hid (show ∀ w', Calls Tryd.prog 24 #[InsV op a t neg hh ll s day] w' fun e w'' => e = .returned (.tuple #[.int .i64 off, .int .i64 on, .int .i64 turn, .int .i64 ask, .bool true]) ∧ Below w'.heap.size w' w'' from fun w' => by
            have := HTK.out w'
            rw [htk] at this
            exact this)
          have hfi := hfw.out i
          have HOLi := Lib.hid hv2
          have HALK := Lib.hid (fun w' (hb : Below wr.heap.size wr w') => alike_any (W i) w' v (OL.wrd (OL.new hv2 hb)) (by omega))
          obtain ⟨q, c1, rfl, hq1, -⟩ := OL.form hv2
          obtain ⟨ln, hln⟩ : ∃ ln, ln = (W i).length := ⟨_, rfl⟩
          obtain ⟨al, hal⟩ : ∃ al, al = alike (W i) := ⟨_, rfl⟩
          rw [← hln] at hv1 HALK
          rw [← hal] at HALK
          clear hv2 hv3 hv5 hv6 HTK
          cases al with
          | false =>
            have HF := Lib.hid (show O = none by rw [← HPR.out]; exact doc_no (.inr (.inl hal.symm)))
            clear htk HPR hws hfw hfi hq1 hln hal HOLi
            go_wp2_with (first
              | (go_at_call 24; (with_reducible refine (HTK2.out _).mono ?_); rintro e w2 ⟨rfl, hb1⟩; obtain ⟨osA, dA, rfl⟩ := ext_of_below hb1; clear hb1)
              | (go_at_call 25; (with_reducible refine (HALK.out _ (by (repeat' (first | (with_reducible exact Below.refl _ _) | (with_reducible assumption) | (with_reducible refine Below.alloc ?_ ?_ _) | (with_reducible refine below_drewN ?_ _) | (with_reducible refine below_drew ?_) | (with_reducible refine below_ext ?_ ?_ _ _) | (with_reducible refine Below.setCell ?_ ?_ _) | (simp; done) | (simp; omega) | omega)))).mono ?_); rintro e w2 ⟨rfl, d2, rfl⟩))
            go_ret2
            exact DvQ.no HF.out (HBE.out.trans (by (repeat' (first | (with_reducible exact Below.refl _ _) | (with_reducible assumption) | (with_reducible refine Below.alloc ?_ ?_ _) | (with_reducible refine below_drewN ?_ _) | (with_reducible refine below_drew ?_) | (with_reducible refine below_ext ?_ ?_ _ _) | (with_reducible refine Below.setCell ?_ ?_ _) | (simp; done) | (simp; omega) | omega))))
          | true =>
            obtain ⟨st, hst1, hst2, hst3⟩ := alike_head hal.symm
            obtain ⟨s1, s2⟩ := st
            have h0n : 0 < (W i).length := by
              cases hW : W i with
              | nil => rw [hW] at hst1; cases hst1
              | cons x r => simp
            obtain ⟨gq, rfl, hgq1, hgq2⟩ := hq1 h0n
            have hl0 : (W i)[0] = (s1, s2) := hst3 _ (List.getElem_mem h0n)
            have hy : wr.cell? ⟨gq, 0, none⟩ = some (.int .i64 s1) ∧ wr.cell? ⟨gq, 1, none⟩ = some (.int .i64 s2) := by
              have y0 := OL.cell wE_cells (HOLi.out) 0 0 h0n (u := .int .i64 s1) (by rw [hl0]; rfl)
              have y1 := OL.cell wE_cells (HOLi.out) 0 1 h0n (u := .int .i64 s2) (by rw [hl0]; rfl)
              rw [Nat.zero_mul, Nat.zero_add] at y0 y1
              exact ⟨y0, y1⟩
            obtain ⟨y0, y1⟩ := hy
            have h0li : (0 : Int) < (ln : Int) := by omega
            have hsb := hfi.2 (s1, s2) (by rw [← hl0]; exact List.getElem_mem h0n)
            simp only at hsb
            clear hl0 hst1 hst3 HOLi hq1
            by_cases hok : off ≤ s1 ∧ ask ≤ s2
            · obtain ⟨hok1, hok2⟩ := hok
              have hn1 : ¬ s1 < off := by omega
              have hn2 : ¬ s2 < ask := by omega
              obtain ⟨M, hM⟩ : ∃ M, M = max most s1 := ⟨_, rfl⟩
              have HMX := Lib.hid hM
              obtain ⟨X, hX⟩ : ∃ X, X = s1 - off + on := ⟨_, rfl⟩
              obtain ⟨Y, hY⟩ : ∃ Y, Y = s2 + turn := ⟨_, rfl⟩
              have V1 : IntKind.i64.wrap (s1 - off) = s1 - off := IntWalk.i64_in _ (by omega)
              have V2 : IntKind.i64.wrap (s1 - off + on) = s1 - off + on := IntWalk.i64_in _ (by omega)
              have V3 : IntKind.i64.wrap (s2 + turn) = s2 + turn := IntWalk.i64_in _ (by omega)
              have HX := Lib.hid hX
              have HY := Lib.hid hY
              have HFX := Lib.hid (few_push (s := (X, Y)) hfw.out op a (by simp only; omega))
              have HWS3 := Lib.hid hws.out
              have HGO := Lib.hid (show (jmp op → (i : Int) < a ∧ a ≤ len) → docR len fin ((l.drop (i + 1)).map two) (i + 1) (push W op a i (X, Y)) M = O from fun hj => by
                rw [← HPR.out, doc_yes htk hal.symm hst2 ⟨hok1, hok2, hj⟩, hM, hX, hY])
              have HNO := Lib.hid (show ¬ (jmp op → (i : Int) < a ∧ a ≤ len) → O = none from fun hj => by
                rw [← HPR.out]; exact doc_no (.inr (.inr ⟨_, htk, by rw [hst2]; exact fun e => hj e.2.2⟩)))
              have hap := hle.2.2.2.2.2
              clear htk HPR hws hfi hln hal hst2 h0n hsb hM hX hY hle hok1 hok2
              go_upto_region 15 with (first
                | (go_at_call 24; (with_reducible refine (HTK2.out _).mono ?_); rintro e w2 ⟨rfl, hb1⟩; obtain ⟨osA, dA, rfl⟩ := ext_of_below hb1; clear hb1)
                | (go_at_call 25; (with_reducible refine (HALK.out _ (by (repeat' (first | (with_reducible exact Below.refl _ _) | (with_reducible assumption) | (with_reducible refine Below.alloc ?_ ?_ _) | (with_reducible refine below_drewN ?_ _) | (with_reducible refine below_drew ?_) | (with_reducible refine below_ext ?_ ?_ _ _) | (with_reducible refine Below.setCell ?_ ?_ _) | (simp; done) | (simp; omega) | omega)))).mono ?_); rintro e w2 ⟨rfl, d2, rfl⟩))
              go_cut [8] from 31 to 176 (fun s8 wx => s8 = .int .i64 M ∧ Below wr.heap.size wr wx)
              case first =>
                go_wp2_with fail
                all_goals
                  go_meet
                  exact ⟨by rw [HMX.out]; congr 1; omega, by (repeat' (first | (with_reducible exact Below.refl _ _) | (with_reducible assumption) | (with_reducible refine Below.alloc ?_ ?_ _) | (with_reducible refine below_drewN ?_ _) | (with_reducible refine below_drew ?_) | (with_reducible refine below_ext ?_ ?_ _ _) | (with_reducible refine Below.setCell ?_ ?_ _) | (simp; done) | (simp; omega) | omega))⟩
              case rest =>
                obtain ⟨rfl, hbc⟩ := hcut
                have hsc := hbc.size
                have x0 := (hbc.cell (p := ⟨g, _, none⟩) hgw).trans x0
                have x1 := (hbc.cell (p := ⟨g, _, none⟩) hgw).trans x1
                have hv1 := (hbc.cell (p := ⟨w.heap.size + 1, _, none⟩) hv4).trans hv1
                have y0 := (hbc.cell (p := ⟨gq, _, none⟩) hgq2).trans y0
                have y1 := (hbc.cell (p := ⟨gq, _, none⟩) hgq2).trans y1
                have HWS4 := Lib.hid (HWS3.out.new hbc)
                have hgw2 : g < wc.heap.size := by omega
                have hgq3 : gq < wc.heap.size := by omega
                have hv42 : w.heap.size + 1 < wc.heap.size := by omega
                clear x2 x3 x4 x5 x6 x7 HWS3 HALK HTK2 HMX
                obtain ⟨wA, hwA⟩ : ∃ wA, wA = wc := ⟨_, rfl⟩
                subst hwA
                go_upto_region 16 with fail
                go_cut [15] from 31 to 176 (fun s15 wx => ∃ bb, s15 = .pointer (some ⟨bb, 0, none⟩) ∧ wA.heap.size ≤ bb ∧ bb < wx.heap.size ∧ wx.cell? ⟨bb, 0, none⟩ = some (.int .i64 X) ∧ wx.cell? ⟨bb, 1, none⟩ = some (.int .i64 Y) ∧ Below wA.heap.size wA wx)
                case first =>
                  go_region
                  all_goals
                    go_wp2_with fail
                    go_meet
                    exact ⟨wA.heap.size, rfl, Nat.le_refl _, by simp, by rw [HX.out]; simp, by rw [HY.out]; simp, by (repeat' (first | (with_reducible exact Below.refl _ _) | (with_reducible assumption) | (with_reducible refine Below.alloc ?_ ?_ _) | (with_reducible refine below_drewN ?_ _) | (with_reducible refine below_drew ?_) | (with_reducible refine below_ext ?_ ?_ _ _) | (with_reducible refine Below.setCell ?_ ?_ _) | (simp; done) | (simp; omega) | omega))⟩
                case rest =>
                  obtain ⟨bb, rfl, hbb1, hbb2, e0, e1, hbd⟩ := hcut
                  obtain ⟨wB, hwB⟩ : ∃ wB, wB = wc := ⟨_, rfl⟩
                  subst hwB
                  have hsd := hbd.size
                  have x0 := (hbd.cell (p := ⟨g, _, none⟩) hgw2).trans x0
                  have x1 := (hbd.cell (p := ⟨g, _, none⟩) hgw2).trans x1
                  have HWS5 := Lib.hid (HWS4.out.new hbd)
                  have hgw3 : g < wB.heap.size := by omega
                  have hv43 : w.heap.size + 1 < wB.heap.size := by omega
                  have hgb : w.heap.size + 1 + 1 ≤ wB.heap.size := by omega
                  have hswB : w.heap.size ≤ wB.heap.size := by omega
                  obtain ⟨ka, rfl⟩ : ∃ ka : Nat, a = ka := ⟨a.toNat, by omega⟩
                  clear y0 y1 hv1
                  have hgw0 : g < w.heap.size := Nat.lt_of_lt_of_le hg HN.out
                  have HBW := Lib.hid (hbc.trans (hbd.mono hsc))
                  by_cases h101 : op = 101
                  · subst h101
                    by_cases hj : (i : Int) < (ka : Int) ∧ (ka : Int) ≤ (len : Int)
                    · have HG2 := Lib.hid (HGO.out (fun _ => hj))
                      obtain ⟨hj1, hj2⟩ := hj
                      have hj3 : ¬ (ka : Int) ≤ (i : Int) := by omega
                      have hj4 : ¬ (len : Int) < (ka : Int) := by omega
                      have hj5 : (ka : Int) < (len : Int) + 1 := by omega
                      obtain ⟨v', r1, r2, r3, r4, r5⟩ := HWS4.out.push hbd (x := ka) (by omega) (X, Y)
                      have R2 := Lib.hid r2
                      have R3 := Lib.hid r3
                      have R5 := Lib.hid r5
                      have hlw2 : (W ka).length ≤ 1000000 := by
                        have := (hfw.out ka).1; omega
                      have hgne : ¬ g = w.heap.size + 1 := by omega
                      have hgno : v'.ownBlock ≠ some g := fun e => by have := (r4 g e).1; omega
                      have hbne : ¬ bb = w.heap.size + 1 := by omega
                      have hbno : v'.ownBlock ≠ some bb := fun e => by have := (r4 bb e).2; omega
                      clear r2 r3 r5 HGO HNO r4
                      have HK1 := Lib.hid (show ∀ w', Below wB.heap.size wB w' → (w'.cell? ⟨g, o + i * 8 + 1, none⟩ = some (.int .i64 (ka : Int)) ∧ w'.cell? ⟨bb, 0, none⟩ = some (.int .i64 X) ∧ w'.cell? ⟨bb, 1, none⟩ = some (.int .i64 Y)) from fun w' hb => ⟨(hb.cell (p := ⟨g, _, none⟩) hgw3).trans x1, (hb.cell (p := ⟨bb, 0, none⟩) hbb2).trans e0, (hb.cell (p := ⟨bb, 1, none⟩) hbb2).trans e1⟩)
                      have HK2 := Lib.hid (show ∀ w', Ot (fun k => v'.ownBlock = some k) wB w' → (w'.cell? ⟨g, o + i * 8 + 1, none⟩ = some (.int .i64 (ka : Int)) ∧ w'.cell? ⟨bb, 0, none⟩ = some (.int .i64 X) ∧ w'.cell? ⟨bb, 1, none⟩ = some (.int .i64 Y)) from fun w' ho => ⟨(ho.cell hgw3 hgno).trans x1, (ho.cell hbb2 hbno).trans e0, (ho.cell hbb2 hbno).trans e1⟩)
                      have HK3 := Lib.hid (show ∀ w' : World, (∀ g j, g < wB.heap.size → g ≠ w.heap.size + 1 → v'.ownBlock ≠ some g → w'.cell? ⟨g, j, none⟩ = wB.cell? ⟨g, j, none⟩) → (w'.cell? ⟨g, o + i * 8 + 1, none⟩ = some (.int .i64 (ka : Int)) ∧ w'.cell? ⟨bb, 0, none⟩ = some (.int .i64 X) ∧ w'.cell? ⟨bb, 1, none⟩ = some (.int .i64 Y)) from fun w' ho => ⟨(ho g _ hgw3 hgne hgno).trans x1, (ho bb 0 hbb2 hbne hbno).trans e0, (ho bb 1 hbb2 hbne hbno).trans e1⟩)
                      have HX9 := Lib.hid (show ∀ w' : World, (∀ g j, g < wB.heap.size → g ≠ w.heap.size + 1 → v'.ownBlock ≠ some g → w'.cell? ⟨g, j, none⟩ = wB.cell? ⟨g, j, none⟩) → (w'.cell? ⟨g, o + i * 8, none⟩ = some (.int .i64 101) ∧ w'.cell? ⟨bb, 0, none⟩ = some (.int .i64 X) ∧ w'.cell? ⟨bb, 1, none⟩ = some (.int .i64 Y)) from fun w' ho => ⟨(ho g _ hgw3 hgne hgno).trans x0, (ho bb 0 hbb2 hbne hbno).trans e0, (ho bb 1 hbb2 hbne hbno).trans e1⟩)
                      go_upto_region 20 with fail
                      refine wp_region_held_drew (S := fun w' => w'.cell? ⟨g, o + i * 8 + 1, none⟩ = some (.int .i64 (ka : Int)) ∧ w'.cell? ⟨bb, 0, none⟩ = some (.int .i64 X) ∧ w'.cell? ⟨bb, 1, none⟩ = some (.int .i64 Y)) (by kernel_rfl) ?r1xhSa (fun hHeld => ?r1xresta)
                      case r1xhSa => ((try dsimp only); exact HK1.out _ (by (repeat' (first | (with_reducible exact Below.refl _ _) | (with_reducible assumption) | (with_reducible refine Below.alloc ?_ ?_ _) | (with_reducible refine below_drewN ?_ _) | (with_reducible refine below_drew ?_) | (with_reducible refine below_ext ?_ ?_ _ _) | (with_reducible refine Below.setCell ?_ ?_ _) | (simp; done) | (simp; omega) | omega))))
                      refine wpAnyH_take (i := 0) (oi := ({ dst := some 141, op := Op.move (Operand.tmp 7), type := 58, pos := "ref.go:143", after := #[], guard := none } : Oper)) (v := ?r1xv1) rfl (by kernel_rfl) (by kernel_rfl) (by kernel_rfl) (fun _ _ _ h => h) (Or.inl ⟨by rfl, ?r1xhy1⟩) (by assumption) ?r1xre1
                      case r1xhy1 => (intro w hSw; (try dsimp only at hSw); go_simp; try with_reducible rfl)
                      (try simp only [Act.put, List.setIfInBounds_toArray, List.set_cons_zero, List.set_cons_succ])
                      refine wpAnyH_take (i := 1) (oi := ({ dst := some 142, op := Op.move (Operand.tmp 0), type := 32, pos := "ref.go:143", after := #[], guard := none } : Oper)) (v := ?r1xv2) rfl (by kernel_rfl) (by kernel_rfl) (by kernel_rfl) (fun _ _ _ h => h) (Or.inl ⟨by rfl, ?r1xhy2⟩) (by assumption) ?r1xre2
                      case r1xhy2 => (intro w hSw; (try dsimp only at hSw); go_simp; try with_reducible rfl)
                      (try simp only [Act.put, List.setIfInBounds_toArray, List.set_cons_zero, List.set_cons_succ])
                      refine wpAnyH_take (i := 2) (oi := ({ dst := some 143, op := Op.move (Operand.tmp 9), type := 3, pos := "ref.go:143", after := #[], guard := none } : Oper)) (v := ?r1xv3) rfl (by kernel_rfl) (by kernel_rfl) (by kernel_rfl) (fun _ _ _ h => h) (Or.inl ⟨by rfl, ?r1xhy3⟩) (by assumption) ?r1xre3
                      case r1xhy3 => (intro w hSw; (try dsimp only at hSw); go_simp; try with_reducible rfl)
                      (try simp only [Act.put, List.setIfInBounds_toArray, List.set_cons_zero, List.set_cons_succ])
                      refine wpAnyH_take (i := 3) (oi := ({ dst := some 144, op := Op.indexAddr 32 (Operand.tmp 142) (Operand.tmp 143), type := 0, pos := "ref.go:143", after := #[{ on := 1, ground := Ground.data }, { on := 2, ground := Ground.data }], guard := none } : Oper)) (v := ?r1xv4) rfl (by kernel_rfl) (by kernel_rfl) (by kernel_rfl) (fun _ _ _ h => h) (Or.inl ⟨by rfl, ?r1xhy4⟩) (by assumption) ?r1xre4
                      case r1xhy4 => (intro w hSw; (try dsimp only at hSw); go_simp; try with_reducible rfl)
                      (try simp only [Act.put, List.setIfInBounds_toArray, List.set_cons_zero, List.set_cons_succ])
                      refine wpAnyH_take (i := 4) (oi := ({ dst := some 145, op := Op.fieldAddr 53 (Operand.tmp 144) 1, type := 0, pos := "ref.go:143", after := #[{ on := 3, ground := Ground.data }], guard := none } : Oper)) (v := ?r1xv5) rfl (by kernel_rfl) (by kernel_rfl) (by kernel_rfl) (fun _ _ _ h => h) (Or.inl ⟨by rfl, ?r1xhy5⟩) (by assumption) ?r1xre5
                      case r1xhy5 => (intro w hSw; (try dsimp only at hSw); go_simp; try with_reducible rfl)
                      (try simp only [Act.put, List.setIfInBounds_toArray, List.set_cons_zero, List.set_cons_succ])
                      refine wpAnyH_take (i := 5) (oi := ({ dst := some 146, op := Op.load 3 (Operand.tmp 145), type := 3, pos := "ref.go:143", after := #[{ on := 4, ground := Ground.data }], guard := none } : Oper)) (v := ?r1xv6) rfl (by kernel_rfl) (by kernel_rfl) (by kernel_rfl) (fun _ _ _ h => h) (Or.inl ⟨by rfl, ?r1xhy6⟩) (by assumption) ?r1xre6
                      case r1xhy6 => (intro w hSw; (try dsimp only at hSw); go_simp; try with_reducible rfl)
                      (try simp only [Act.put, List.setIfInBounds_toArray, List.set_cons_zero, List.set_cons_succ])
                      refine wpAnyH_take (i := 6) (oi := ({ dst := some 147, op := Op.move (Operand.tmp 7), type := 58, pos := "ref.go:143", after := #[], guard := none } : Oper)) (v := ?r1xv7) rfl (by kernel_rfl) (by kernel_rfl) (by kernel_rfl) (fun _ _ _ h => h) (Or.inl ⟨by rfl, ?r1xhy7⟩) (by assumption) ?r1xre7
                      case r1xhy7 => (intro w hSw; (try dsimp only at hSw); go_simp; try with_reducible rfl)
                      (try simp only [Act.put, List.setIfInBounds_toArray, List.set_cons_zero, List.set_cons_succ])
                      refine wpAnyH_take (i := 7) (oi := ({ dst := some 148, op := Op.move (Operand.tmp 0), type := 32, pos := "ref.go:143", after := #[], guard := none } : Oper)) (v := ?r1xv8) rfl (by kernel_rfl) (by kernel_rfl) (by kernel_rfl) (fun _ _ _ h => h) (Or.inl ⟨by rfl, ?r1xhy8⟩) (by assumption) ?r1xre8
                      case r1xhy8 => (intro w hSw; (try dsimp only at hSw); go_simp; try with_reducible rfl)
                      (try simp only [Act.put, List.setIfInBounds_toArray, List.set_cons_zero, List.set_cons_succ])
                      refine wpAnyH_take (i := 8) (oi := ({ dst := some 149, op := Op.move (Operand.tmp 9), type := 3, pos := "ref.go:143", after := #[], guard := none } : Oper)) (v := ?r1xv9) rfl (by kernel_rfl) (by kernel_rfl) (by kernel_rfl) (fun _ _ _ h => h) (Or.inl ⟨by rfl, ?r1xhy9⟩) (by assumption) ?r1xre9
                      case r1xhy9 => (intro w hSw; (try dsimp only at hSw); go_simp; try with_reducible rfl)
                      (try simp only [Act.put, List.setIfInBounds_toArray, List.set_cons_zero, List.set_cons_succ])
                      refine wpAnyH_take (i := 9) (oi := ({ dst := some 150, op := Op.indexAddr 32 (Operand.tmp 148) (Operand.tmp 149), type := 0, pos := "ref.go:143", after := #[{ on := 7, ground := Ground.data }, { on := 8, ground := Ground.data }], guard := none } : Oper)) (v := ?r1xv10) rfl (by kernel_rfl) (by kernel_rfl) (by kernel_rfl) (fun _ _ _ h => h) (Or.inl ⟨by rfl, ?r1xhy10⟩) (by assumption) ?r1xre10
                      case r1xhy10 => (intro w hSw; (try dsimp only at hSw); go_simp; try with_reducible rfl)
                      (try simp only [Act.put, List.setIfInBounds_toArray, List.set_cons_zero, List.set_cons_succ])
                      refine wpAnyH_take (i := 10) (oi := ({ dst := some 151, op := Op.fieldAddr 53 (Operand.tmp 150) 1, type := 0, pos := "ref.go:143", after := #[{ on := 9, ground := Ground.data }], guard := none } : Oper)) (v := ?r1xv11) rfl (by kernel_rfl) (by kernel_rfl) (by kernel_rfl) (fun _ _ _ h => h) (Or.inl ⟨by rfl, ?r1xhy11⟩) (by assumption) ?r1xre11
                      case r1xhy11 => (intro w hSw; (try dsimp only at hSw); go_simp; try with_reducible rfl)
                      (try simp only [Act.put, List.setIfInBounds_toArray, List.set_cons_zero, List.set_cons_succ])
                      refine wpAnyH_take (i := 11) (oi := ({ dst := some 152, op := Op.load 3 (Operand.tmp 151), type := 3, pos := "ref.go:143", after := #[{ on := 10, ground := Ground.data }], guard := none } : Oper)) (v := ?r1xv12) rfl (by kernel_rfl) (by kernel_rfl) (by kernel_rfl) (fun _ _ _ h => h) (Or.inl ⟨by rfl, ?r1xhy12⟩) (by assumption) ?r1xre12
                      case r1xhy12 => (intro w hSw; (try dsimp only at hSw); go_simp; try with_reducible rfl)
                      (try simp only [Act.put, List.setIfInBounds_toArray, List.set_cons_zero, List.set_cons_succ])
                      refine wpAnyH_take (i := 12) (oi := ({ dst := some 153, op := Op.indexAddr 58 (Operand.tmp 147) (Operand.tmp 152), type := 0, pos := "ref.go:143", after := #[{ on := 6, ground := Ground.data }, { on := 11, ground := Ground.data }], guard := none } : Oper)) (v := ?r1xv13) rfl (by kernel_rfl) (by kernel_rfl) (by kernel_rfl) (fun _ _ _ h => h) (Or.inl ⟨by rfl, ?r1xhy13⟩) (by assumption) ?r1xre13
                      case r1xhy13 => (intro w hSw; (try dsimp only at hSw); go_simp; try with_reducible rfl)
                      (try simp only [Act.put, List.setIfInBounds_toArray, List.set_cons_zero, List.set_cons_succ])
                      refine wpAnyH_take (i := 14) (oi := ({ dst := some 155, op := Op.load 57 (Operand.tmp 15), type := 57, pos := "ref.go:143", after := #[], guard := none } : Oper)) (v := ?r1xv14) rfl (by kernel_rfl) (by kernel_rfl) (by kernel_rfl) (fun _ _ _ h => h) (Or.inl ⟨by rfl, ?r1xhy14⟩) (by assumption) ?r1xre14
                      case r1xhy14 => (intro w hSw; (try dsimp only at hSw); go_simp; try with_reducible rfl)
                      (try simp only [Act.put, List.setIfInBounds_toArray, List.set_cons_zero, List.set_cons_succ])
                      refine wpAnyH_ready (rs := [13, 15]) (by kernel_rfl) (by simp) ?_
                      refine AllReadyH.cons (o := ({ dst := some 154, op := Op.load 59 (Operand.tmp 153), type := 59, pos := "ref.go:143", after := #[{ on := 12, ground := Ground.data }], guard := none } : Oper)) rfl (fun K hK => ?_) ?_
                      · go_simp
                        refine hK.out _ _ ?r1xhS15 (fun hHeldN => ?r1xrst15)
                        case r1xhS15 => ((try dsimp only); exact HK1.out _ (by (repeat' (first | (with_reducible exact Below.refl _ _) | (with_reducible assumption) | (with_reducible refine Below.alloc ?_ ?_ _) | (with_reducible refine below_drewN ?_ _) | (with_reducible refine below_drew ?_) | (with_reducible refine below_ext ?_ ?_ _ _) | (with_reducible refine Below.setCell ?_ ?_ _) | (simp; done) | (simp; omega) | omega))))
                        clear hHeld hK K
                        have hHeld := hHeldN
                        clear hHeldN
                        (try simp only [Act.put, List.setIfInBounds_toArray, List.set_cons_zero, List.set_cons_succ])
                        refine wpAnyH_ready (rs := [15]) (by kernel_rfl) (by simp) ?_
                        refine AllReadyH.cons (o := ({ dst := some 156, op := Op.buildSlice 59 1 #[(0, Operand.tmp 155)], type := 59, pos := "ref.go:143", after := #[{ on := 14, ground := Ground.data }], guard := none } : Oper)) rfl (fun K hK => ?_) AllReadyH.nil
                        go_simp
                        refine hK.out _ _ ?r1xhS16 (fun hHeldN => ?r1xrst16)
                        case r1xhS16 => ((try dsimp only); exact HK1.out _ (by (repeat' (first | (with_reducible exact Below.refl _ _) | (with_reducible assumption) | (with_reducible refine Below.alloc ?_ ?_ _) | (with_reducible refine below_drewN ?_ _) | (with_reducible refine below_drew ?_) | (with_reducible refine below_ext ?_ ?_ _ _) | (with_reducible refine Below.setCell ?_ ?_ _) | (simp; done) | (simp; omega) | omega))))
                        clear hHeld hK K
                        have hHeld := hHeldN
                        clear hHeldN
                        (try simp only [Act.put, List.setIfInBounds_toArray, List.set_cons_zero, List.set_cons_succ])
                        refine wpAnyH_ready (rs := [16]) (by kernel_rfl) (by simp) ?_
                        refine AllReadyH.cons (o := ({ dst := some 157, op := Op.call { callee := Callee.builtin Builtin.append, args := #[Operand.tmp 154, Operand.tmp 156], argTypes := #[59, 59] }, type := 59, pos := "ref.go:143", after := #[{ on := 13, ground := Ground.data }, { on := 15, ground := Ground.data }], guard := none } : Oper)) rfl (fun K hK => ?_) AllReadyH.nil
                        (refine step_append_ol wK_ok wE_cells rfl (.tmp 154) (.tmp 156) rfl rfl wB (X, Y) (by (repeat' (first | (with_reducible exact Below.refl _ _) | (with_reducible assumption) | (with_reducible refine Below.alloc ?_ ?_ _) | (with_reducible refine below_drewN ?_ _) | (with_reducible refine below_drew ?_) | (with_reducible refine below_ext ?_ ?_ _ _) | (with_reducible refine Below.setCell ?_ ?_ _) | (simp; done) | (simp; omega) | omega))) (gr := wB.heap.size) (by exact heap_alloc_new wB _) R2.out (by simp [Act.eval]) hlw2 hgb ?_; intro g2 cap2 w2 hob3 hoth hat hg2 hsz2; obtain ⟨c3, y3⟩ := R3.out w2 hoth; have hnu := R5.out g2 cap2 w2 hob3 hoth hat; have HNU := Lib.hid hnu; have HS2 := Lib.hid (HK2.out _ hoth); have HS3 := Lib.hid (HK3.out _ hnu.2.1); clear hnu hob3 hoth hat hg2 hsz2)
                        refine hK.out _ _ ?r1xhS17 (fun hHeldN => ?r1xrst17)
                        case r1xhS17 => ((try dsimp only); exact HS2.out)
                        clear hHeld hK K
                        have hHeld := hHeldN
                        clear hHeldN
                        refine wpAnyH_ready (rs := [17]) (by kernel_rfl) (by simp) ?_
                        refine AllReadyH.cons (o := ({ dst := some 158, op := Op.indexAddr 58 (Operand.tmp 141) (Operand.tmp 146), type := 0, pos := "ref.go:143", after := #[{ on := 0, ground := Ground.data }, { on := 5, ground := Ground.data }, { on := 0, ground := Ground.phase }, { on := 1, ground := Ground.phase }, { on := 2, ground := Ground.phase }, { on := 3, ground := Ground.phase }, { on := 4, ground := Ground.phase }, { on := 5, ground := Ground.phase }, { on := 6, ground := Ground.phase }, { on := 7, ground := Ground.phase }, { on := 8, ground := Ground.phase }, { on := 9, ground := Ground.phase }, { on := 10, ground := Ground.phase }, { on := 11, ground := Ground.phase }, { on := 12, ground := Ground.phase }, { on := 13, ground := Ground.phase }, { on := 14, ground := Ground.phase }, { on := 15, ground := Ground.phase }, { on := 16, ground := Ground.phase }], guard := none } : Oper)) rfl (fun K hK => ?_) AllReadyH.nil
                        go_simp
                        refine hK.out _ _ ?r1xhS18 (fun hHeldN => ?r1xrst18)
                        case r1xhS18 => ((try dsimp only); exact HS2.out)
                        clear hHeld hK K
                        have hHeld := hHeldN
                        clear hHeldN
                        (try simp only [Act.put, List.setIfInBounds_toArray, List.set_cons_zero, List.set_cons_succ])
                        refine wpAnyH_ready (rs := [18]) (by kernel_rfl) (by simp) ?_
                        refine AllReadyH.cons (o := ({ dst := none, op := Op.store 59 (Operand.tmp 158) (Operand.tmp 157), type := 0, pos := "ref.go:143", after := #[{ on := 17, ground := Ground.data }, { on := 16, ground := Ground.data }, { on := 16, ground := Ground.chain }, { on := 0, ground := Ground.phase }, { on := 1, ground := Ground.phase }, { on := 2, ground := Ground.phase }, { on := 3, ground := Ground.phase }, { on := 4, ground := Ground.phase }, { on := 5, ground := Ground.phase }, { on := 6, ground := Ground.phase }, { on := 7, ground := Ground.phase }, { on := 8, ground := Ground.phase }, { on := 9, ground := Ground.phase }, { on := 10, ground := Ground.phase }, { on := 11, ground := Ground.phase }, { on := 12, ground := Ground.phase }, { on := 13, ground := Ground.phase }, { on := 14, ground := Ground.phase }, { on := 15, ground := Ground.phase }, { on := 16, ground := Ground.phase }], guard := none } : Oper)) rfl (fun K hK => ?_) AllReadyH.nil
                        go_simp
                        refine hK.out _ _ ?r1xhS19 (fun hHeldN => ?r1xrst19)
                        case r1xhS19 => ((try dsimp only); exact HS3.out)
                        clear hHeld hK K
                        have hHeld := hHeldN
                        clear hHeldN
                        refine wpAnyH_done (by kernel_rfl) ?_ _
                        clear hHeld
                        obtain ⟨w5, hw5⟩ : ∃ w5, w5 = w2.setCell ⟨w.heap.size + 1, ka, none⟩ (.slice (some ⟨g2, 0, none⟩) ((W ka).length + 1) cap2) := ⟨_, rfl⟩
                        obtain ⟨x9, -, -⟩ := HX9.out _ HNU.out.2.1
                        rw [← hw5] at HNU x9 ⊢
                        clear hw5 c3 y3 x0 x1 e0 e1
                        go_wp2
                        go_roundw
                        case rel => exact ⟨i + 1, M, _, by go_num, rfl, by omega, Lib.hid (HNU.out.1.congr push_jump), HFX, HG2⟩
                        case measure => simp [intOf]; omega
                      refine AllReadyH.cons (o := ({ dst := some 156, op := Op.buildSlice 59 1 #[(0, Operand.tmp 155)], type := 59, pos := "ref.go:143", after := #[{ on := 14, ground := Ground.data }], guard := none } : Oper)) rfl (fun K hK => ?_) ?_
                      · go_simp
                        refine hK.out _ _ ?r1xhS20 (fun hHeldN => ?r1xrst20)
                        case r1xhS20 => ((try dsimp only); exact HK1.out _ (by (repeat' (first | (with_reducible exact Below.refl _ _) | (with_reducible assumption) | (with_reducible refine Below.alloc ?_ ?_ _) | (with_reducible refine below_drewN ?_ _) | (with_reducible refine below_drew ?_) | (with_reducible refine below_ext ?_ ?_ _ _) | (with_reducible refine Below.setCell ?_ ?_ _) | (simp; done) | (simp; omega) | omega))))
                        clear hHeld hK K
                        have hHeld := hHeldN
                        clear hHeldN
                        (try simp only [Act.put, List.setIfInBounds_toArray, List.set_cons_zero, List.set_cons_succ])
                        refine wpAnyH_ready (rs := [13]) (by kernel_rfl) (by simp) ?_
                        refine AllReadyH.cons (o := ({ dst := some 154, op := Op.load 59 (Operand.tmp 153), type := 59, pos := "ref.go:143", after := #[{ on := 12, ground := Ground.data }], guard := none } : Oper)) rfl (fun K hK => ?_) AllReadyH.nil
                        go_simp
                        refine hK.out _ _ ?r1xhS21 (fun hHeldN => ?r1xrst21)
                        case r1xhS21 => ((try dsimp only); exact HK1.out _ (by (repeat' (first | (with_reducible exact Below.refl _ _) | (with_reducible assumption) | (with_reducible refine Below.alloc ?_ ?_ _) | (with_reducible refine below_drewN ?_ _) | (with_reducible refine below_drew ?_) | (with_reducible refine below_ext ?_ ?_ _ _) | (with_reducible refine Below.setCell ?_ ?_ _) | (simp; done) | (simp; omega) | omega))))
                        clear hHeld hK K
                        have hHeld := hHeldN
                        clear hHeldN
                        (try simp only [Act.put, List.setIfInBounds_toArray, List.set_cons_zero, List.set_cons_succ])
                        refine wpAnyH_ready (rs := [16]) (by kernel_rfl) (by simp) ?_
                        refine AllReadyH.cons (o := ({ dst := some 157, op := Op.call { callee := Callee.builtin Builtin.append, args := #[Operand.tmp 154, Operand.tmp 156], argTypes := #[59, 59] }, type := 59, pos := "ref.go:143", after := #[{ on := 13, ground := Ground.data }, { on := 15, ground := Ground.data }], guard := none } : Oper)) rfl (fun K hK => ?_) AllReadyH.nil
                        (refine step_append_ol wK_ok wE_cells rfl (.tmp 154) (.tmp 156) rfl rfl wB (X, Y) (by (repeat' (first | (with_reducible exact Below.refl _ _) | (with_reducible assumption) | (with_reducible refine Below.alloc ?_ ?_ _) | (with_reducible refine below_drewN ?_ _) | (with_reducible refine below_drew ?_) | (with_reducible refine below_ext ?_ ?_ _ _) | (with_reducible refine Below.setCell ?_ ?_ _) | (simp; done) | (simp; omega) | omega))) (gr := wB.heap.size) (by exact heap_alloc_new wB _) R2.out (by simp [Act.eval]) hlw2 hgb ?_; intro g2 cap2 w2 hob3 hoth hat hg2 hsz2; obtain ⟨c3, y3⟩ := R3.out w2 hoth; have hnu := R5.out g2 cap2 w2 hob3 hoth hat; have HNU := Lib.hid hnu; have HS2 := Lib.hid (HK2.out _ hoth); have HS3 := Lib.hid (HK3.out _ hnu.2.1); clear hnu hob3 hoth hat hg2 hsz2)
                        refine hK.out _ _ ?r1xhS22 (fun hHeldN => ?r1xrst22)
                        case r1xhS22 => ((try dsimp only); exact HS2.out)
                        clear hHeld hK K
                        have hHeld := hHeldN
                        clear hHeldN
                        refine wpAnyH_ready (rs := [17]) (by kernel_rfl) (by simp) ?_
                        refine AllReadyH.cons (o := ({ dst := some 158, op := Op.indexAddr 58 (Operand.tmp 141) (Operand.tmp 146), type := 0, pos := "ref.go:143", after := #[{ on := 0, ground := Ground.data }, { on := 5, ground := Ground.data }, { on := 0, ground := Ground.phase }, { on := 1, ground := Ground.phase }, { on := 2, ground := Ground.phase }, { on := 3, ground := Ground.phase }, { on := 4, ground := Ground.phase }, { on := 5, ground := Ground.phase }, { on := 6, ground := Ground.phase }, { on := 7, ground := Ground.phase }, { on := 8, ground := Ground.phase }, { on := 9, ground := Ground.phase }, { on := 10, ground := Ground.phase }, { on := 11, ground := Ground.phase }, { on := 12, ground := Ground.phase }, { on := 13, ground := Ground.phase }, { on := 14, ground := Ground.phase }, { on := 15, ground := Ground.phase }, { on := 16, ground := Ground.phase }], guard := none } : Oper)) rfl (fun K hK => ?_) AllReadyH.nil
                        go_simp
                        refine hK.out _ _ ?r1xhS23 (fun hHeldN => ?r1xrst23)
                        case r1xhS23 => ((try dsimp only); exact HS2.out)
                        clear hHeld hK K
                        have hHeld := hHeldN
                        clear hHeldN
                        (try simp only [Act.put, List.setIfInBounds_toArray, List.set_cons_zero, List.set_cons_succ])
                        refine wpAnyH_ready (rs := [18]) (by kernel_rfl) (by simp) ?_
                        refine AllReadyH.cons (o := ({ dst := none, op := Op.store 59 (Operand.tmp 158) (Operand.tmp 157), type := 0, pos := "ref.go:143", after := #[{ on := 17, ground := Ground.data }, { on := 16, ground := Ground.data }, { on := 16, ground := Ground.chain }, { on := 0, ground := Ground.phase }, { on := 1, ground := Ground.phase }, { on := 2, ground := Ground.phase }, { on := 3, ground := Ground.phase }, { on := 4, ground := Ground.phase }, { on := 5, ground := Ground.phase }, { on := 6, ground := Ground.phase }, { on := 7, ground := Ground.phase }, { on := 8, ground := Ground.phase }, { on := 9, ground := Ground.phase }, { on := 10, ground := Ground.phase }, { on := 11, ground := Ground.phase }, { on := 12, ground := Ground.phase }, { on := 13, ground := Ground.phase }, { on := 14, ground := Ground.phase }, { on := 15, ground := Ground.phase }, { on := 16, ground := Ground.phase }], guard := none } : Oper)) rfl (fun K hK => ?_) AllReadyH.nil
                        go_simp
                        refine hK.out _ _ ?r1xhS24 (fun hHeldN => ?r1xrst24)
                        case r1xhS24 => ((try dsimp only); exact HS3.out)
                        clear hHeld hK K
                        have hHeld := hHeldN
                        clear hHeldN
                        refine wpAnyH_done (by kernel_rfl) ?_ _
                        clear hHeld
                        obtain ⟨w5, hw5⟩ : ∃ w5, w5 = w2.setCell ⟨w.heap.size + 1, ka, none⟩ (.slice (some ⟨g2, 0, none⟩) ((W ka).length + 1) cap2) := ⟨_, rfl⟩
                        obtain ⟨x9, -, -⟩ := HX9.out _ HNU.out.2.1
                        rw [← hw5] at HNU x9 ⊢
                        clear hw5 c3 y3 x0 x1 e0 e1
                        go_wp2
                        go_roundw
                        case rel => exact ⟨i + 1, M, _, by go_num, rfl, by omega, Lib.hid (HNU.out.1.congr push_jump), HFX, HG2⟩
                        case measure => simp [intOf]; omega
                      exact AllReadyH.nil
                    · have HF := Lib.hid (HNO.out (fun h => hj (h (by decide))))
                      have hbad : (ka : Int) ≤ (i : Int) ∨ (¬ (ka : Int) ≤ (i : Int) ∧ (len : Int) < (ka : Int)) := by omega
                      clear HGO HNO HFX HWS4 HWS5 hj
                      rcases hbad with hb0 | ⟨hb0, hb00⟩
                      all_goals
                        go_wp2
                        go_ret2
                        exact DvQ.no HF.out (HBE.out.trans ((HBW.out.mono hsw).trans (by (repeat' (first | (with_reducible exact Below.refl _ _) | (with_reducible assumption) | (with_reducible refine Below.alloc ?_ ?_ _) | (with_reducible refine below_drewN ?_ _) | (with_reducible refine below_drew ?_) | (with_reducible refine below_ext ?_ ?_ _ _) | (with_reducible refine Below.setCell ?_ ?_ _) | (simp; done) | (simp; omega) | omega)))))
                  · by_cases h102 : op = 102
                    · subst h102
                      by_cases hj : (i : Int) < (ka : Int) ∧ (ka : Int) ≤ (len : Int)
                      · have HG2 := Lib.hid (HGO.out (fun _ => hj))
                        obtain ⟨hj1, hj2⟩ := hj
                        have hj3 : ¬ (ka : Int) ≤ (i : Int) := by omega
                        have hj4 : ¬ (len : Int) < (ka : Int) := by omega
                        have hj5 : (ka : Int) < (len : Int) + 1 := by omega
                        obtain ⟨v', r1, r2, r3, r4, r5⟩ := HWS4.out.push hbd (x := ka) (by omega) (X, Y)
                        have R2 := Lib.hid r2
                        have R3 := Lib.hid r3
                        have R5 := Lib.hid r5
                        have hlw2 : (W ka).length ≤ 1000000 := by
                          have := (hfw.out ka).1; omega
                        have hgne : ¬ g = w.heap.size + 1 := by omega
                        have hgno : v'.ownBlock ≠ some g := fun e => by have := (r4 g e).1; omega
                        have hbne : ¬ bb = w.heap.size + 1 := by omega
                        have hbno : v'.ownBlock ≠ some bb := fun e => by have := (r4 bb e).2; omega
                        clear r2 r3 r5 HGO HNO r4
                        have HK1 := Lib.hid (show ∀ w', Below wB.heap.size wB w' → (w'.cell? ⟨g, o + i * 8 + 1, none⟩ = some (.int .i64 (ka : Int)) ∧ w'.cell? ⟨bb, 0, none⟩ = some (.int .i64 X) ∧ w'.cell? ⟨bb, 1, none⟩ = some (.int .i64 Y)) from fun w' hb => ⟨(hb.cell (p := ⟨g, _, none⟩) hgw3).trans x1, (hb.cell (p := ⟨bb, 0, none⟩) hbb2).trans e0, (hb.cell (p := ⟨bb, 1, none⟩) hbb2).trans e1⟩)
                        have HK2 := Lib.hid (show ∀ w', Ot (fun k => v'.ownBlock = some k) wB w' → (w'.cell? ⟨g, o + i * 8 + 1, none⟩ = some (.int .i64 (ka : Int)) ∧ w'.cell? ⟨bb, 0, none⟩ = some (.int .i64 X) ∧ w'.cell? ⟨bb, 1, none⟩ = some (.int .i64 Y)) from fun w' ho => ⟨(ho.cell hgw3 hgno).trans x1, (ho.cell hbb2 hbno).trans e0, (ho.cell hbb2 hbno).trans e1⟩)
                        have HK3 := Lib.hid (show ∀ w' : World, (∀ g j, g < wB.heap.size → g ≠ w.heap.size + 1 → v'.ownBlock ≠ some g → w'.cell? ⟨g, j, none⟩ = wB.cell? ⟨g, j, none⟩) → (w'.cell? ⟨g, o + i * 8 + 1, none⟩ = some (.int .i64 (ka : Int)) ∧ w'.cell? ⟨bb, 0, none⟩ = some (.int .i64 X) ∧ w'.cell? ⟨bb, 1, none⟩ = some (.int .i64 Y)) from fun w' ho => ⟨(ho g _ hgw3 hgne hgno).trans x1, (ho bb 0 hbb2 hbne hbno).trans e0, (ho bb 1 hbb2 hbne hbno).trans e1⟩)
                        have HX9 := Lib.hid (show ∀ w' : World, (∀ g j, g < wB.heap.size → g ≠ w.heap.size + 1 → v'.ownBlock ≠ some g → w'.cell? ⟨g, j, none⟩ = wB.cell? ⟨g, j, none⟩) → (w'.cell? ⟨g, o + i * 8, none⟩ = some (.int .i64 102) ∧ w'.cell? ⟨bb, 0, none⟩ = some (.int .i64 X) ∧ w'.cell? ⟨bb, 1, none⟩ = some (.int .i64 Y)) from fun w' ho => ⟨(ho g _ hgw3 hgne hgno).trans x0, (ho bb 0 hbb2 hbne hbno).trans e0, (ho bb 1 hbb2 hbne hbno).trans e1⟩)
                        go_upto_region 20 with fail
                        refine wp_region_held_drew (S := fun w' => w'.cell? ⟨g, o + i * 8 + 1, none⟩ = some (.int .i64 (ka : Int)) ∧ w'.cell? ⟨bb, 0, none⟩ = some (.int .i64 X) ∧ w'.cell? ⟨bb, 1, none⟩ = some (.int .i64 Y)) (by kernel_rfl) ?r2xhSa (fun hHeld => ?r2xresta)
                        case r2xhSa => ((try dsimp only); exact HK1.out _ (by (repeat' (first | (with_reducible exact Below.refl _ _) | (with_reducible assumption) | (with_reducible refine Below.alloc ?_ ?_ _) | (with_reducible refine below_drewN ?_ _) | (with_reducible refine below_drew ?_) | (with_reducible refine below_ext ?_ ?_ _ _) | (with_reducible refine Below.setCell ?_ ?_ _) | (simp; done) | (simp; omega) | omega))))
                        refine wpAnyH_take (i := 0) (oi := ({ dst := some 141, op := Op.move (Operand.tmp 7), type := 58, pos := "ref.go:143", after := #[], guard := none } : Oper)) (v := ?r2xv1) rfl (by kernel_rfl) (by kernel_rfl) (by kernel_rfl) (fun _ _ _ h => h) (Or.inl ⟨by rfl, ?r2xhy1⟩) (by assumption) ?r2xre1
                        case r2xhy1 => (intro w hSw; (try dsimp only at hSw); go_simp; try with_reducible rfl)
                        (try simp only [Act.put, List.setIfInBounds_toArray, List.set_cons_zero, List.set_cons_succ])
                        refine wpAnyH_take (i := 1) (oi := ({ dst := some 142, op := Op.move (Operand.tmp 0), type := 32, pos := "ref.go:143", after := #[], guard := none } : Oper)) (v := ?r2xv2) rfl (by kernel_rfl) (by kernel_rfl) (by kernel_rfl) (fun _ _ _ h => h) (Or.inl ⟨by rfl, ?r2xhy2⟩) (by assumption) ?r2xre2
                        case r2xhy2 => (intro w hSw; (try dsimp only at hSw); go_simp; try with_reducible rfl)
                        (try simp only [Act.put, List.setIfInBounds_toArray, List.set_cons_zero, List.set_cons_succ])
                        refine wpAnyH_take (i := 2) (oi := ({ dst := some 143, op := Op.move (Operand.tmp 9), type := 3, pos := "ref.go:143", after := #[], guard := none } : Oper)) (v := ?r2xv3) rfl (by kernel_rfl) (by kernel_rfl) (by kernel_rfl) (fun _ _ _ h => h) (Or.inl ⟨by rfl, ?r2xhy3⟩) (by assumption) ?r2xre3
                        case r2xhy3 => (intro w hSw; (try dsimp only at hSw); go_simp; try with_reducible rfl)
                        (try simp only [Act.put, List.setIfInBounds_toArray, List.set_cons_zero, List.set_cons_succ])
                        refine wpAnyH_take (i := 3) (oi := ({ dst := some 144, op := Op.indexAddr 32 (Operand.tmp 142) (Operand.tmp 143), type := 0, pos := "ref.go:143", after := #[{ on := 1, ground := Ground.data }, { on := 2, ground := Ground.data }], guard := none } : Oper)) (v := ?r2xv4) rfl (by kernel_rfl) (by kernel_rfl) (by kernel_rfl) (fun _ _ _ h => h) (Or.inl ⟨by rfl, ?r2xhy4⟩) (by assumption) ?r2xre4
                        case r2xhy4 => (intro w hSw; (try dsimp only at hSw); go_simp; try with_reducible rfl)
                        (try simp only [Act.put, List.setIfInBounds_toArray, List.set_cons_zero, List.set_cons_succ])
                        refine wpAnyH_take (i := 4) (oi := ({ dst := some 145, op := Op.fieldAddr 53 (Operand.tmp 144) 1, type := 0, pos := "ref.go:143", after := #[{ on := 3, ground := Ground.data }], guard := none } : Oper)) (v := ?r2xv5) rfl (by kernel_rfl) (by kernel_rfl) (by kernel_rfl) (fun _ _ _ h => h) (Or.inl ⟨by rfl, ?r2xhy5⟩) (by assumption) ?r2xre5
                        case r2xhy5 => (intro w hSw; (try dsimp only at hSw); go_simp; try with_reducible rfl)
                        (try simp only [Act.put, List.setIfInBounds_toArray, List.set_cons_zero, List.set_cons_succ])
                        refine wpAnyH_take (i := 5) (oi := ({ dst := some 146, op := Op.load 3 (Operand.tmp 145), type := 3, pos := "ref.go:143", after := #[{ on := 4, ground := Ground.data }], guard := none } : Oper)) (v := ?r2xv6) rfl (by kernel_rfl) (by kernel_rfl) (by kernel_rfl) (fun _ _ _ h => h) (Or.inl ⟨by rfl, ?r2xhy6⟩) (by assumption) ?r2xre6
                        case r2xhy6 => (intro w hSw; (try dsimp only at hSw); go_simp; try with_reducible rfl)
                        (try simp only [Act.put, List.setIfInBounds_toArray, List.set_cons_zero, List.set_cons_succ])
                        refine wpAnyH_take (i := 6) (oi := ({ dst := some 147, op := Op.move (Operand.tmp 7), type := 58, pos := "ref.go:143", after := #[], guard := none } : Oper)) (v := ?r2xv7) rfl (by kernel_rfl) (by kernel_rfl) (by kernel_rfl) (fun _ _ _ h => h) (Or.inl ⟨by rfl, ?r2xhy7⟩) (by assumption) ?r2xre7
                        case r2xhy7 => (intro w hSw; (try dsimp only at hSw); go_simp; try with_reducible rfl)
                        (try simp only [Act.put, List.setIfInBounds_toArray, List.set_cons_zero, List.set_cons_succ])
                        refine wpAnyH_take (i := 7) (oi := ({ dst := some 148, op := Op.move (Operand.tmp 0), type := 32, pos := "ref.go:143", after := #[], guard := none } : Oper)) (v := ?r2xv8) rfl (by kernel_rfl) (by kernel_rfl) (by kernel_rfl) (fun _ _ _ h => h) (Or.inl ⟨by rfl, ?r2xhy8⟩) (by assumption) ?r2xre8
                        case r2xhy8 => (intro w hSw; (try dsimp only at hSw); go_simp; try with_reducible rfl)
                        (try simp only [Act.put, List.setIfInBounds_toArray, List.set_cons_zero, List.set_cons_succ])
                        refine wpAnyH_take (i := 8) (oi := ({ dst := some 149, op := Op.move (Operand.tmp 9), type := 3, pos := "ref.go:143", after := #[], guard := none } : Oper)) (v := ?r2xv9) rfl (by kernel_rfl) (by kernel_rfl) (by kernel_rfl) (fun _ _ _ h => h) (Or.inl ⟨by rfl, ?r2xhy9⟩) (by assumption) ?r2xre9
                        case r2xhy9 => (intro w hSw; (try dsimp only at hSw); go_simp; try with_reducible rfl)
                        (try simp only [Act.put, List.setIfInBounds_toArray, List.set_cons_zero, List.set_cons_succ])
                        refine wpAnyH_take (i := 9) (oi := ({ dst := some 150, op := Op.indexAddr 32 (Operand.tmp 148) (Operand.tmp 149), type := 0, pos := "ref.go:143", after := #[{ on := 7, ground := Ground.data }, { on := 8, ground := Ground.data }], guard := none } : Oper)) (v := ?r2xv10) rfl (by kernel_rfl) (by kernel_rfl) (by kernel_rfl) (fun _ _ _ h => h) (Or.inl ⟨by rfl, ?r2xhy10⟩) (by assumption) ?r2xre10
                        case r2xhy10 => (intro w hSw; (try dsimp only at hSw); go_simp; try with_reducible rfl)
                        (try simp only [Act.put, List.setIfInBounds_toArray, List.set_cons_zero, List.set_cons_succ])
                        refine wpAnyH_take (i := 10) (oi := ({ dst := some 151, op := Op.fieldAddr 53 (Operand.tmp 150) 1, type := 0, pos := "ref.go:143", after := #[{ on := 9, ground := Ground.data }], guard := none } : Oper)) (v := ?r2xv11) rfl (by kernel_rfl) (by kernel_rfl) (by kernel_rfl) (fun _ _ _ h => h) (Or.inl ⟨by rfl, ?r2xhy11⟩) (by assumption) ?r2xre11
                        case r2xhy11 => (intro w hSw; (try dsimp only at hSw); go_simp; try with_reducible rfl)
                        (try simp only [Act.put, List.setIfInBounds_toArray, List.set_cons_zero, List.set_cons_succ])
                        refine wpAnyH_take (i := 11) (oi := ({ dst := some 152, op := Op.load 3 (Operand.tmp 151), type := 3, pos := "ref.go:143", after := #[{ on := 10, ground := Ground.data }], guard := none } : Oper)) (v := ?r2xv12) rfl (by kernel_rfl) (by kernel_rfl) (by kernel_rfl) (fun _ _ _ h => h) (Or.inl ⟨by rfl, ?r2xhy12⟩) (by assumption) ?r2xre12
                        case r2xhy12 => (intro w hSw; (try dsimp only at hSw); go_simp; try with_reducible rfl)
                        (try simp only [Act.put, List.setIfInBounds_toArray, List.set_cons_zero, List.set_cons_succ])
                        refine wpAnyH_take (i := 12) (oi := ({ dst := some 153, op := Op.indexAddr 58 (Operand.tmp 147) (Operand.tmp 152), type := 0, pos := "ref.go:143", after := #[{ on := 6, ground := Ground.data }, { on := 11, ground := Ground.data }], guard := none } : Oper)) (v := ?r2xv13) rfl (by kernel_rfl) (by kernel_rfl) (by kernel_rfl) (fun _ _ _ h => h) (Or.inl ⟨by rfl, ?r2xhy13⟩) (by assumption) ?r2xre13
                        case r2xhy13 => (intro w hSw; (try dsimp only at hSw); go_simp; try with_reducible rfl)
                        (try simp only [Act.put, List.setIfInBounds_toArray, List.set_cons_zero, List.set_cons_succ])
                        refine wpAnyH_take (i := 14) (oi := ({ dst := some 155, op := Op.load 57 (Operand.tmp 15), type := 57, pos := "ref.go:143", after := #[], guard := none } : Oper)) (v := ?r2xv14) rfl (by kernel_rfl) (by kernel_rfl) (by kernel_rfl) (fun _ _ _ h => h) (Or.inl ⟨by rfl, ?r2xhy14⟩) (by assumption) ?r2xre14
                        case r2xhy14 => (intro w hSw; (try dsimp only at hSw); go_simp; try with_reducible rfl)
                        (try simp only [Act.put, List.setIfInBounds_toArray, List.set_cons_zero, List.set_cons_succ])
                        refine wpAnyH_ready (rs := [13, 15]) (by kernel_rfl) (by simp) ?_
                        refine AllReadyH.cons (o := ({ dst := some 154, op := Op.load 59 (Operand.tmp 153), type := 59, pos := "ref.go:143", after := #[{ on := 12, ground := Ground.data }], guard := none } : Oper)) rfl (fun K hK => ?_) ?_
                        · go_simp
                          refine hK.out _ _ ?r2xhS15 (fun hHeldN => ?r2xrst15)
                          case r2xhS15 => ((try dsimp only); exact HK1.out _ (by (repeat' (first | (with_reducible exact Below.refl _ _) | (with_reducible assumption) | (with_reducible refine Below.alloc ?_ ?_ _) | (with_reducible refine below_drewN ?_ _) | (with_reducible refine below_drew ?_) | (with_reducible refine below_ext ?_ ?_ _ _) | (with_reducible refine Below.setCell ?_ ?_ _) | (simp; done) | (simp; omega) | omega))))
                          clear hHeld hK K
                          have hHeld := hHeldN
                          clear hHeldN
                          (try simp only [Act.put, List.setIfInBounds_toArray, List.set_cons_zero, List.set_cons_succ])
                          refine wpAnyH_ready (rs := [15]) (by kernel_rfl) (by simp) ?_
                          refine AllReadyH.cons (o := ({ dst := some 156, op := Op.buildSlice 59 1 #[(0, Operand.tmp 155)], type := 59, pos := "ref.go:143", after := #[{ on := 14, ground := Ground.data }], guard := none } : Oper)) rfl (fun K hK => ?_) AllReadyH.nil
                          go_simp
                          refine hK.out _ _ ?r2xhS16 (fun hHeldN => ?r2xrst16)
                          case r2xhS16 => ((try dsimp only); exact HK1.out _ (by (repeat' (first | (with_reducible exact Below.refl _ _) | (with_reducible assumption) | (with_reducible refine Below.alloc ?_ ?_ _) | (with_reducible refine below_drewN ?_ _) | (with_reducible refine below_drew ?_) | (with_reducible refine below_ext ?_ ?_ _ _) | (with_reducible refine Below.setCell ?_ ?_ _) | (simp; done) | (simp; omega) | omega))))
                          clear hHeld hK K
                          have hHeld := hHeldN
                          clear hHeldN
                          (try simp only [Act.put, List.setIfInBounds_toArray, List.set_cons_zero, List.set_cons_succ])
                          refine wpAnyH_ready (rs := [16]) (by kernel_rfl) (by simp) ?_
                          refine AllReadyH.cons (o := ({ dst := some 157, op := Op.call { callee := Callee.builtin Builtin.append, args := #[Operand.tmp 154, Operand.tmp 156], argTypes := #[59, 59] }, type := 59, pos := "ref.go:143", after := #[{ on := 13, ground := Ground.data }, { on := 15, ground := Ground.data }], guard := none } : Oper)) rfl (fun K hK => ?_) AllReadyH.nil
                          (refine step_append_ol wK_ok wE_cells rfl (.tmp 154) (.tmp 156) rfl rfl wB (X, Y) (by (repeat' (first | (with_reducible exact Below.refl _ _) | (with_reducible assumption) | (with_reducible refine Below.alloc ?_ ?_ _) | (with_reducible refine below_drewN ?_ _) | (with_reducible refine below_drew ?_) | (with_reducible refine below_ext ?_ ?_ _ _) | (with_reducible refine Below.setCell ?_ ?_ _) | (simp; done) | (simp; omega) | omega))) (gr := wB.heap.size) (by exact heap_alloc_new wB _) R2.out (by simp [Act.eval]) hlw2 hgb ?_; intro g2 cap2 w2 hob3 hoth hat hg2 hsz2; obtain ⟨c3, y3⟩ := R3.out w2 hoth; have hnu := R5.out g2 cap2 w2 hob3 hoth hat; have HNU := Lib.hid hnu; have HS2 := Lib.hid (HK2.out _ hoth); have HS3 := Lib.hid (HK3.out _ hnu.2.1); clear hnu hob3 hoth hat hg2 hsz2)
                          refine hK.out _ _ ?r2xhS17 (fun hHeldN => ?r2xrst17)
                          case r2xhS17 => ((try dsimp only); exact HS2.out)
                          clear hHeld hK K
                          have hHeld := hHeldN
                          clear hHeldN
                          refine wpAnyH_ready (rs := [17]) (by kernel_rfl) (by simp) ?_
                          refine AllReadyH.cons (o := ({ dst := some 158, op := Op.indexAddr 58 (Operand.tmp 141) (Operand.tmp 146), type := 0, pos := "ref.go:143", after := #[{ on := 0, ground := Ground.data }, { on := 5, ground := Ground.data }, { on := 0, ground := Ground.phase }, { on := 1, ground := Ground.phase }, { on := 2, ground := Ground.phase }, { on := 3, ground := Ground.phase }, { on := 4, ground := Ground.phase }, { on := 5, ground := Ground.phase }, { on := 6, ground := Ground.phase }, { on := 7, ground := Ground.phase }, { on := 8, ground := Ground.phase }, { on := 9, ground := Ground.phase }, { on := 10, ground := Ground.phase }, { on := 11, ground := Ground.phase }, { on := 12, ground := Ground.phase }, { on := 13, ground := Ground.phase }, { on := 14, ground := Ground.phase }, { on := 15, ground := Ground.phase }, { on := 16, ground := Ground.phase }], guard := none } : Oper)) rfl (fun K hK => ?_) AllReadyH.nil
                          go_simp
                          refine hK.out _ _ ?r2xhS18 (fun hHeldN => ?r2xrst18)
                          case r2xhS18 => ((try dsimp only); exact HS2.out)
                          clear hHeld hK K
                          have hHeld := hHeldN
                          clear hHeldN
                          (try simp only [Act.put, List.setIfInBounds_toArray, List.set_cons_zero, List.set_cons_succ])
                          refine wpAnyH_ready (rs := [18]) (by kernel_rfl) (by simp) ?_
                          refine AllReadyH.cons (o := ({ dst := none, op := Op.store 59 (Operand.tmp 158) (Operand.tmp 157), type := 0, pos := "ref.go:143", after := #[{ on := 17, ground := Ground.data }, { on := 16, ground := Ground.data }, { on := 16, ground := Ground.chain }, { on := 0, ground := Ground.phase }, { on := 1, ground := Ground.phase }, { on := 2, ground := Ground.phase }, { on := 3, ground := Ground.phase }, { on := 4, ground := Ground.phase }, { on := 5, ground := Ground.phase }, { on := 6, ground := Ground.phase }, { on := 7, ground := Ground.phase }, { on := 8, ground := Ground.phase }, { on := 9, ground := Ground.phase }, { on := 10, ground := Ground.phase }, { on := 11, ground := Ground.phase }, { on := 12, ground := Ground.phase }, { on := 13, ground := Ground.phase }, { on := 14, ground := Ground.phase }, { on := 15, ground := Ground.phase }, { on := 16, ground := Ground.phase }], guard := none } : Oper)) rfl (fun K hK => ?_) AllReadyH.nil
                          go_simp
                          refine hK.out _ _ ?r2xhS19 (fun hHeldN => ?r2xrst19)
                          case r2xhS19 => ((try dsimp only); exact HS3.out)
                          clear hHeld hK K
                          have hHeld := hHeldN
                          clear hHeldN
                          refine wpAnyH_done (by kernel_rfl) ?_ _
                          clear hHeld
                          obtain ⟨w5, hw5⟩ : ∃ w5, w5 = w2.setCell ⟨w.heap.size + 1, ka, none⟩ (.slice (some ⟨g2, 0, none⟩) ((W ka).length + 1) cap2) := ⟨_, rfl⟩
                          obtain ⟨x9, e9, e8⟩ := HX9.out _ HNU.out.2.1
                          rw [← hw5] at HNU x9 e9 e8 ⊢
                          clear hw5 c3 y3 x0 x1 e0 e1 HK1 HK2 HK3 HS2 HS3 R2 R3 R5
                          obtain ⟨v5, t1, t2, t3, t4, t5⟩ := HNU.out.1.push (Below.refl _ _) (x := i + 1) (by omega) (X, Y)
                          have T2 := Lib.hid t2
                          have T3 := Lib.hid t3
                          have T5 := Lib.hid t5
                          have hlw5 : ((fun t => if t = ka then W ka ++ [(X, Y)] else W t) (i + 1)).length ≤ 1000000 := by
                            have h7 := (hfw.out (i + 1)).1
                            show (if i + 1 = ka then W ka ++ [(X, Y)] else W (i + 1)).length ≤ 1000000
                            split
                            · have h8 := (hfw.out ka).1
                              rw [List.length_append]; simp; omega
                            · omega
                          have hgb5 : w.heap.size + 1 + 1 ≤ w5.heap.size := Nat.le_trans hgb HNU.out.2.2.1
                          have i1 : ((i : Int) + 1).toNat = i + 1 := by omega
                          have i2 : (0 : Int) ≤ (i : Int) + 1 := by omega
                          have i3 : (i : Int) + 1 < (len : Int) + 1 := by omega
                          have i4 : ¬ (i : Int) + 1 < 0 := by omega
                          have hbb5 : bb < w5.heap.size := Nat.lt_of_lt_of_le hbb2 HNU.out.2.2.1
                          have hgw5 : g < w5.heap.size := Nat.lt_of_lt_of_le hgw3 HNU.out.2.2.1
                          have hv53 : w.heap.size + 1 < w5.heap.size := by omega
                          have hbne5 : ¬ bb = w.heap.size + 1 := hbne
                          have hbno5 : v5.ownBlock ≠ some bb := fun e => by rcases HNU.out.2.2.2 (i + 1) (by omega) v5 t1 bb e with h9 | h9 <;> omega
                          have HK1 := Lib.hid (show ∀ w', Below w5.heap.size w5 w' → (w'.cell? ⟨bb, 0, none⟩ = some (.int .i64 X) ∧ w'.cell? ⟨bb, 1, none⟩ = some (.int .i64 Y)) from fun w' hb => ⟨(hb.cell (p := ⟨bb, 0, none⟩) hbb5).trans e9, (hb.cell (p := ⟨bb, 1, none⟩) hbb5).trans e8⟩)
                          have HK2 := Lib.hid (show ∀ w', Ot (fun k => v5.ownBlock = some k) w5 w' → (w'.cell? ⟨bb, 0, none⟩ = some (.int .i64 X) ∧ w'.cell? ⟨bb, 1, none⟩ = some (.int .i64 Y)) from fun w' ho => ⟨(ho.cell hbb5 hbno5).trans e9, (ho.cell hbb5 hbno5).trans e8⟩)
                          have HK3 := Lib.hid (show ∀ w' : World, (∀ g j, g < w5.heap.size → g ≠ w.heap.size + 1 → v5.ownBlock ≠ some g → w'.cell? ⟨g, j, none⟩ = w5.cell? ⟨g, j, none⟩) → (w'.cell? ⟨bb, 0, none⟩ = some (.int .i64 X) ∧ w'.cell? ⟨bb, 1, none⟩ = some (.int .i64 Y)) from fun w' ho => ⟨(ho bb 0 hbb5 hbne hbno5).trans e9, (ho bb 1 hbb5 hbne hbno5).trans e8⟩)
                          clear t2 t3 t5 t4 HNU
                          go_upto_region 22 with fail
                          refine wp_region_held_drew (S := fun w' => w'.cell? ⟨bb, 0, none⟩ = some (.int .i64 X) ∧ w'.cell? ⟨bb, 1, none⟩ = some (.int .i64 Y)) (by kernel_rfl) ?r4xhSa (fun hHeld => ?r4xresta)
                          case r4xhSa => ((try dsimp only); exact HK1.out _ (by (repeat' (first | (with_reducible exact Below.refl _ _) | (with_reducible assumption) | (with_reducible refine Below.alloc ?_ ?_ _) | (with_reducible refine below_drewN ?_ _) | (with_reducible refine below_drew ?_) | (with_reducible refine below_ext ?_ ?_ _ _) | (with_reducible refine Below.setCell ?_ ?_ _) | (simp; done) | (simp; omega) | omega))))
                          refine wpAnyH_take (i := 0) (oi := ({ dst := some 165, op := Op.move (Operand.tmp 7), type := 58, pos := "ref.go:146", after := #[], guard := none } : Oper)) (v := ?r4xv1) rfl (by kernel_rfl) (by kernel_rfl) (by kernel_rfl) (fun _ _ _ h => h) (Or.inl ⟨by rfl, ?r4xhy1⟩) (by assumption) ?r4xre1
                          case r4xhy1 => (intro w hSw; (try dsimp only at hSw); go_simp; try with_reducible rfl)
                          (try simp only [Act.put, List.setIfInBounds_toArray, List.set_cons_zero, List.set_cons_succ])
                          refine wpAnyH_take (i := 1) (oi := ({ dst := some 166, op := Op.move (Operand.tmp 9), type := 3, pos := "ref.go:146", after := #[], guard := none } : Oper)) (v := ?r4xv2) rfl (by kernel_rfl) (by kernel_rfl) (by kernel_rfl) (fun _ _ _ h => h) (Or.inl ⟨by rfl, ?r4xhy2⟩) (by assumption) ?r4xre2
                          case r4xhy2 => (intro w hSw; (try dsimp only at hSw); go_simp; try with_reducible rfl)
                          (try simp only [Act.put, List.setIfInBounds_toArray, List.set_cons_zero, List.set_cons_succ])
                          refine wpAnyH_take (i := 2) (oi := ({ dst := some 167, op := Op.binOp BinOp.add 3 (Operand.tmp 166) (Operand.const (Value.int IntKind.i64 1)) 3, type := 3, pos := "ref.go:146", after := #[{ on := 1, ground := Ground.data }], guard := none } : Oper)) (v := ?r4xv3) rfl (by kernel_rfl) (by kernel_rfl) (by kernel_rfl) (fun _ _ _ h => h) (Or.inl ⟨by rfl, ?r4xhy3⟩) (by assumption) ?r4xre3
                          case r4xhy3 => (intro w hSw; (try dsimp only at hSw); go_simp; try with_reducible rfl)
                          (try simp only [Act.put, List.setIfInBounds_toArray, List.set_cons_zero, List.set_cons_succ])
                          refine wpAnyH_take (i := 3) (oi := ({ dst := some 168, op := Op.move (Operand.tmp 7), type := 58, pos := "ref.go:146", after := #[], guard := none } : Oper)) (v := ?r4xv4) rfl (by kernel_rfl) (by kernel_rfl) (by kernel_rfl) (fun _ _ _ h => h) (Or.inl ⟨by rfl, ?r4xhy4⟩) (by assumption) ?r4xre4
                          case r4xhy4 => (intro w hSw; (try dsimp only at hSw); go_simp; try with_reducible rfl)
                          (try simp only [Act.put, List.setIfInBounds_toArray, List.set_cons_zero, List.set_cons_succ])
                          refine wpAnyH_take (i := 4) (oi := ({ dst := some 169, op := Op.move (Operand.tmp 9), type := 3, pos := "ref.go:146", after := #[], guard := none } : Oper)) (v := ?r4xv5) rfl (by kernel_rfl) (by kernel_rfl) (by kernel_rfl) (fun _ _ _ h => h) (Or.inl ⟨by rfl, ?r4xhy5⟩) (by assumption) ?r4xre5
                          case r4xhy5 => (intro w hSw; (try dsimp only at hSw); go_simp; try with_reducible rfl)
                          (try simp only [Act.put, List.setIfInBounds_toArray, List.set_cons_zero, List.set_cons_succ])
                          refine wpAnyH_take (i := 5) (oi := ({ dst := some 170, op := Op.binOp BinOp.add 3 (Operand.tmp 169) (Operand.const (Value.int IntKind.i64 1)) 3, type := 3, pos := "ref.go:146", after := #[{ on := 4, ground := Ground.data }], guard := none } : Oper)) (v := ?r4xv6) rfl (by kernel_rfl) (by kernel_rfl) (by kernel_rfl) (fun _ _ _ h => h) (Or.inl ⟨by rfl, ?r4xhy6⟩) (by assumption) ?r4xre6
                          case r4xhy6 => (intro w hSw; (try dsimp only at hSw); go_simp; try with_reducible rfl)
                          (try simp only [Act.put, List.setIfInBounds_toArray, List.set_cons_zero, List.set_cons_succ])
                          refine wpAnyH_take (i := 6) (oi := ({ dst := some 171, op := Op.indexAddr 58 (Operand.tmp 168) (Operand.tmp 170), type := 0, pos := "ref.go:146", after := #[{ on := 3, ground := Ground.data }, { on := 5, ground := Ground.data }], guard := none } : Oper)) (v := ?r4xv7) rfl (by kernel_rfl) (by kernel_rfl) (by kernel_rfl) (fun _ _ _ h => h) (Or.inl ⟨by rfl, ?r4xhy7⟩) (by assumption) ?r4xre7
                          case r4xhy7 => (intro w hSw; (try dsimp only at hSw); go_simp; try with_reducible rfl)
                          (try simp only [Act.put, List.setIfInBounds_toArray, List.set_cons_zero, List.set_cons_succ])
                          refine wpAnyH_take (i := 8) (oi := ({ dst := some 173, op := Op.load 57 (Operand.tmp 15), type := 57, pos := "ref.go:146", after := #[], guard := none } : Oper)) (v := ?r4xv8) rfl (by kernel_rfl) (by kernel_rfl) (by kernel_rfl) (fun _ _ _ h => h) (Or.inl ⟨by rfl, ?r4xhy8⟩) (by assumption) ?r4xre8
                          case r4xhy8 => (intro w hSw; (try dsimp only at hSw); go_simp; try with_reducible rfl)
                          (try simp only [Act.put, List.setIfInBounds_toArray, List.set_cons_zero, List.set_cons_succ])
                          refine wpAnyH_ready (rs := [7, 9]) (by kernel_rfl) (by simp) ?_
                          refine AllReadyH.cons (o := ({ dst := some 172, op := Op.load 59 (Operand.tmp 171), type := 59, pos := "ref.go:146", after := #[{ on := 6, ground := Ground.data }], guard := none } : Oper)) rfl (fun K hK => ?_) ?_
                          · go_simp
                            refine hK.out _ _ ?r4xhS9 (fun hHeldN => ?r4xrst9)
                            case r4xhS9 => ((try dsimp only); exact HK1.out _ (by (repeat' (first | (with_reducible exact Below.refl _ _) | (with_reducible assumption) | (with_reducible refine Below.alloc ?_ ?_ _) | (with_reducible refine below_drewN ?_ _) | (with_reducible refine below_drew ?_) | (with_reducible refine below_ext ?_ ?_ _ _) | (with_reducible refine Below.setCell ?_ ?_ _) | (simp; done) | (simp; omega) | omega))))
                            clear hHeld hK K
                            have hHeld := hHeldN
                            clear hHeldN
                            (try simp only [Act.put, List.setIfInBounds_toArray, List.set_cons_zero, List.set_cons_succ])
                            refine wpAnyH_ready (rs := [9]) (by kernel_rfl) (by simp) ?_
                            refine AllReadyH.cons (o := ({ dst := some 174, op := Op.buildSlice 59 1 #[(0, Operand.tmp 173)], type := 59, pos := "ref.go:146", after := #[{ on := 8, ground := Ground.data }], guard := none } : Oper)) rfl (fun K hK => ?_) AllReadyH.nil
                            go_simp
                            refine hK.out _ _ ?r4xhS10 (fun hHeldN => ?r4xrst10)
                            case r4xhS10 => ((try dsimp only); exact HK1.out _ (by (repeat' (first | (with_reducible exact Below.refl _ _) | (with_reducible assumption) | (with_reducible refine Below.alloc ?_ ?_ _) | (with_reducible refine below_drewN ?_ _) | (with_reducible refine below_drew ?_) | (with_reducible refine below_ext ?_ ?_ _ _) | (with_reducible refine Below.setCell ?_ ?_ _) | (simp; done) | (simp; omega) | omega))))
                            clear hHeld hK K
                            have hHeld := hHeldN
                            clear hHeldN
                            (try simp only [Act.put, List.setIfInBounds_toArray, List.set_cons_zero, List.set_cons_succ])
                            refine wpAnyH_ready (rs := [10]) (by kernel_rfl) (by simp) ?_
                            refine AllReadyH.cons (o := ({ dst := some 175, op := Op.call { callee := Callee.builtin Builtin.append, args := #[Operand.tmp 172, Operand.tmp 174], argTypes := #[59, 59] }, type := 59, pos := "ref.go:146", after := #[{ on := 7, ground := Ground.data }, { on := 9, ground := Ground.data }], guard := none } : Oper)) rfl (fun K hK => ?_) AllReadyH.nil
                            (refine step_append_ol wK_ok wE_cells rfl (.tmp 172) (.tmp 174) rfl rfl w5 (X, Y) (by (repeat' (first | (with_reducible exact Below.refl _ _) | (with_reducible assumption) | (with_reducible refine Below.alloc ?_ ?_ _) | (with_reducible refine below_drewN ?_ _) | (with_reducible refine below_drew ?_) | (with_reducible refine below_ext ?_ ?_ _ _) | (with_reducible refine Below.setCell ?_ ?_ _) | (simp; done) | (simp; omega) | omega))) (gr := w5.heap.size) (by exact heap_alloc_new w5 _) T2.out (by simp [Act.eval]) hlw5 hgb5 ?_; intro g6 cap6 w6 hob3 hoth hat hg2 hsz2; obtain ⟨c3, y3⟩ := T3.out w6 hoth; have hnu := T5.out g6 cap6 w6 hob3 hoth hat; have HNU := Lib.hid hnu; have HS2 := Lib.hid (HK2.out _ hoth); have HS3 := Lib.hid (HK3.out _ hnu.2.1); clear hnu hob3 hoth hat hg2 hsz2)
                            refine hK.out _ _ ?r4xhS11 (fun hHeldN => ?r4xrst11)
                            case r4xhS11 => ((try dsimp only); exact HS2.out)
                            clear hHeld hK K
                            have hHeld := hHeldN
                            clear hHeldN
                            refine wpAnyH_ready (rs := [11]) (by kernel_rfl) (by simp) ?_
                            refine AllReadyH.cons (o := ({ dst := some 176, op := Op.indexAddr 58 (Operand.tmp 165) (Operand.tmp 167), type := 0, pos := "ref.go:146", after := #[{ on := 0, ground := Ground.data }, { on := 2, ground := Ground.data }, { on := 0, ground := Ground.phase }, { on := 1, ground := Ground.phase }, { on := 2, ground := Ground.phase }, { on := 3, ground := Ground.phase }, { on := 4, ground := Ground.phase }, { on := 5, ground := Ground.phase }, { on := 6, ground := Ground.phase }, { on := 7, ground := Ground.phase }, { on := 8, ground := Ground.phase }, { on := 9, ground := Ground.phase }, { on := 10, ground := Ground.phase }], guard := none } : Oper)) rfl (fun K hK => ?_) AllReadyH.nil
                            go_simp
                            refine hK.out _ _ ?r4xhS12 (fun hHeldN => ?r4xrst12)
                            case r4xhS12 => ((try dsimp only); exact HS2.out)
                            clear hHeld hK K
                            have hHeld := hHeldN
                            clear hHeldN
                            (try simp only [Act.put, List.setIfInBounds_toArray, List.set_cons_zero, List.set_cons_succ])
                            refine wpAnyH_ready (rs := [12]) (by kernel_rfl) (by simp) ?_
                            refine AllReadyH.cons (o := ({ dst := none, op := Op.store 59 (Operand.tmp 176) (Operand.tmp 175), type := 0, pos := "ref.go:146", after := #[{ on := 11, ground := Ground.data }, { on := 10, ground := Ground.data }, { on := 10, ground := Ground.chain }, { on := 0, ground := Ground.phase }, { on := 1, ground := Ground.phase }, { on := 2, ground := Ground.phase }, { on := 3, ground := Ground.phase }, { on := 4, ground := Ground.phase }, { on := 5, ground := Ground.phase }, { on := 6, ground := Ground.phase }, { on := 7, ground := Ground.phase }, { on := 8, ground := Ground.phase }, { on := 9, ground := Ground.phase }, { on := 10, ground := Ground.phase }], guard := none } : Oper)) rfl (fun K hK => ?_) AllReadyH.nil
                            go_simp
                            refine hK.out _ _ ?r4xhS13 (fun hHeldN => ?r4xrst13)
                            case r4xhS13 => ((try dsimp only); exact HS3.out)
                            clear hHeld hK K
                            have hHeld := hHeldN
                            clear hHeldN
                            refine wpAnyH_done (by kernel_rfl) ?_ _
                            clear hHeld
                            go_wp2
                            go_roundw
                            case rel => exact ⟨i + 1, M, _, by go_num, rfl, by omega, Lib.hid (HNU.out.1.congr push_both), HFX, HG2⟩
                            case measure => simp [intOf]; omega
                          refine AllReadyH.cons (o := ({ dst := some 174, op := Op.buildSlice 59 1 #[(0, Operand.tmp 173)], type := 59, pos := "ref.go:146", after := #[{ on := 8, ground := Ground.data }], guard := none } : Oper)) rfl (fun K hK => ?_) ?_
                          · go_simp
                            refine hK.out _ _ ?r4xhS14 (fun hHeldN => ?r4xrst14)
                            case r4xhS14 => ((try dsimp only); exact HK1.out _ (by (repeat' (first | (with_reducible exact Below.refl _ _) | (with_reducible assumption) | (with_reducible refine Below.alloc ?_ ?_ _) | (with_reducible refine below_drewN ?_ _) | (with_reducible refine below_drew ?_) | (with_reducible refine below_ext ?_ ?_ _ _) | (with_reducible refine Below.setCell ?_ ?_ _) | (simp; done) | (simp; omega) | omega))))
                            clear hHeld hK K
                            have hHeld := hHeldN
                            clear hHeldN
                            (try simp only [Act.put, List.setIfInBounds_toArray, List.set_cons_zero, List.set_cons_succ])
                            refine wpAnyH_ready (rs := [7]) (by kernel_rfl) (by simp) ?_
                            refine AllReadyH.cons (o := ({ dst := some 172, op := Op.load 59 (Operand.tmp 171), type := 59, pos := "ref.go:146", after := #[{ on := 6, ground := Ground.data }], guard := none } : Oper)) rfl (fun K hK => ?_) AllReadyH.nil
                            go_simp
                            refine hK.out _ _ ?r4xhS15 (fun hHeldN => ?r4xrst15)
                            case r4xhS15 => ((try dsimp only); exact HK1.out _ (by (repeat' (first | (with_reducible exact Below.refl _ _) | (with_reducible assumption) | (with_reducible refine Below.alloc ?_ ?_ _) | (with_reducible refine below_drewN ?_ _) | (with_reducible refine below_drew ?_) | (with_reducible refine below_ext ?_ ?_ _ _) | (with_reducible refine Below.setCell ?_ ?_ _) | (simp; done) | (simp; omega) | omega))))
                            clear hHeld hK K
                            have hHeld := hHeldN
                            clear hHeldN
                            (try simp only [Act.put, List.setIfInBounds_toArray, List.set_cons_zero, List.set_cons_succ])
                            refine wpAnyH_ready (rs := [10]) (by kernel_rfl) (by simp) ?_
                            refine AllReadyH.cons (o := ({ dst := some 175, op := Op.call { callee := Callee.builtin Builtin.append, args := #[Operand.tmp 172, Operand.tmp 174], argTypes := #[59, 59] }, type := 59, pos := "ref.go:146", after := #[{ on := 7, ground := Ground.data }, { on := 9, ground := Ground.data }], guard := none } : Oper)) rfl (fun K hK => ?_) AllReadyH.nil
                            (refine step_append_ol wK_ok wE_cells rfl (.tmp 172) (.tmp 174) rfl rfl w5 (X, Y) (by (repeat' (first | (with_reducible exact Below.refl _ _) | (with_reducible assumption) | (with_reducible refine Below.alloc ?_ ?_ _) | (with_reducible refine below_drewN ?_ _) | (with_reducible refine below_drew ?_) | (with_reducible refine below_ext ?_ ?_ _ _) | (with_reducible refine Below.setCell ?_ ?_ _) | (simp; done) | (simp; omega) | omega))) (gr := w5.heap.size) (by exact heap_alloc_new w5 _) T2.out (by simp [Act.eval]) hlw5 hgb5 ?_; intro g6 cap6 w6 hob3 hoth hat hg2 hsz2; obtain ⟨c3, y3⟩ := T3.out w6 hoth; have hnu := T5.out g6 cap6 w6 hob3 hoth hat; have HNU := Lib.hid hnu; have HS2 := Lib.hid (HK2.out _ hoth); have HS3 := Lib.hid (HK3.out _ hnu.2.1); clear hnu hob3 hoth hat hg2 hsz2)
                            refine hK.out _ _ ?r4xhS16 (fun hHeldN => ?r4xrst16)
                            case r4xhS16 => ((try dsimp only); exact HS2.out)
                            clear hHeld hK K
                            have hHeld := hHeldN
                            clear hHeldN
                            refine wpAnyH_ready (rs := [11]) (by kernel_rfl) (by simp) ?_
                            refine AllReadyH.cons (o := ({ dst := some 176, op := Op.indexAddr 58 (Operand.tmp 165) (Operand.tmp 167), type := 0, pos := "ref.go:146", after := #[{ on := 0, ground := Ground.data }, { on := 2, ground := Ground.data }, { on := 0, ground := Ground.phase }, { on := 1, ground := Ground.phase }, { on := 2, ground := Ground.phase }, { on := 3, ground := Ground.phase }, { on := 4, ground := Ground.phase }, { on := 5, ground := Ground.phase }, { on := 6, ground := Ground.phase }, { on := 7, ground := Ground.phase }, { on := 8, ground := Ground.phase }, { on := 9, ground := Ground.phase }, { on := 10, ground := Ground.phase }], guard := none } : Oper)) rfl (fun K hK => ?_) AllReadyH.nil
                            go_simp
                            refine hK.out _ _ ?r4xhS17 (fun hHeldN => ?r4xrst17)
                            case r4xhS17 => ((try dsimp only); exact HS2.out)
                            clear hHeld hK K
                            have hHeld := hHeldN
                            clear hHeldN
                            (try simp only [Act.put, List.setIfInBounds_toArray, List.set_cons_zero, List.set_cons_succ])
                            refine wpAnyH_ready (rs := [12]) (by kernel_rfl) (by simp) ?_
                            refine AllReadyH.cons (o := ({ dst := none, op := Op.store 59 (Operand.tmp 176) (Operand.tmp 175), type := 0, pos := "ref.go:146", after := #[{ on := 11, ground := Ground.data }, { on := 10, ground := Ground.data }, { on := 10, ground := Ground.chain }, { on := 0, ground := Ground.phase }, { on := 1, ground := Ground.phase }, { on := 2, ground := Ground.phase }, { on := 3, ground := Ground.phase }, { on := 4, ground := Ground.phase }, { on := 5, ground := Ground.phase }, { on := 6, ground := Ground.phase }, { on := 7, ground := Ground.phase }, { on := 8, ground := Ground.phase }, { on := 9, ground := Ground.phase }, { on := 10, ground := Ground.phase }], guard := none } : Oper)) rfl (fun K hK => ?_) AllReadyH.nil
                            go_simp
                            refine hK.out _ _ ?r4xhS18 (fun hHeldN => ?r4xrst18)
                            case r4xhS18 => ((try dsimp only); exact HS3.out)
                            clear hHeld hK K
                            have hHeld := hHeldN
                            clear hHeldN
                            refine wpAnyH_done (by kernel_rfl) ?_ _
                            clear hHeld
                            go_wp2
                            go_roundw
                            case rel => exact ⟨i + 1, M, _, by go_num, rfl, by omega, Lib.hid (HNU.out.1.congr push_both), HFX, HG2⟩
                            case measure => simp [intOf]; omega
                          exact AllReadyH.nil
                        refine AllReadyH.cons (o := ({ dst := some 156, op := Op.buildSlice 59 1 #[(0, Operand.tmp 155)], type := 59, pos := "ref.go:143", after := #[{ on := 14, ground := Ground.data }], guard := none } : Oper)) rfl (fun K hK => ?_) ?_
                        · go_simp
                          refine hK.out _ _ ?r2xhS20 (fun hHeldN => ?r2xrst20)
                          case r2xhS20 => ((try dsimp only); exact HK1.out _ (by (repeat' (first | (with_reducible exact Below.refl _ _) | (with_reducible assumption) | (with_reducible refine Below.alloc ?_ ?_ _) | (with_reducible refine below_drewN ?_ _) | (with_reducible refine below_drew ?_) | (with_reducible refine below_ext ?_ ?_ _ _) | (with_reducible refine Below.setCell ?_ ?_ _) | (simp; done) | (simp; omega) | omega))))
                          clear hHeld hK K
                          have hHeld := hHeldN
                          clear hHeldN
                          (try simp only [Act.put, List.setIfInBounds_toArray, List.set_cons_zero, List.set_cons_succ])
                          refine wpAnyH_ready (rs := [13]) (by kernel_rfl) (by simp) ?_
                          refine AllReadyH.cons (o := ({ dst := some 154, op := Op.load 59 (Operand.tmp 153), type := 59, pos := "ref.go:143", after := #[{ on := 12, ground := Ground.data }], guard := none } : Oper)) rfl (fun K hK => ?_) AllReadyH.nil
                          go_simp
                          refine hK.out _ _ ?r2xhS21 (fun hHeldN => ?r2xrst21)
                          case r2xhS21 => ((try dsimp only); exact HK1.out _ (by (repeat' (first | (with_reducible exact Below.refl _ _) | (with_reducible assumption) | (with_reducible refine Below.alloc ?_ ?_ _) | (with_reducible refine below_drewN ?_ _) | (with_reducible refine below_drew ?_) | (with_reducible refine below_ext ?_ ?_ _ _) | (with_reducible refine Below.setCell ?_ ?_ _) | (simp; done) | (simp; omega) | omega))))
                          clear hHeld hK K
                          have hHeld := hHeldN
                          clear hHeldN
                          (try simp only [Act.put, List.setIfInBounds_toArray, List.set_cons_zero, List.set_cons_succ])
                          refine wpAnyH_ready (rs := [16]) (by kernel_rfl) (by simp) ?_
                          refine AllReadyH.cons (o := ({ dst := some 157, op := Op.call { callee := Callee.builtin Builtin.append, args := #[Operand.tmp 154, Operand.tmp 156], argTypes := #[59, 59] }, type := 59, pos := "ref.go:143", after := #[{ on := 13, ground := Ground.data }, { on := 15, ground := Ground.data }], guard := none } : Oper)) rfl (fun K hK => ?_) AllReadyH.nil
                          (refine step_append_ol wK_ok wE_cells rfl (.tmp 154) (.tmp 156) rfl rfl wB (X, Y) (by (repeat' (first | (with_reducible exact Below.refl _ _) | (with_reducible assumption) | (with_reducible refine Below.alloc ?_ ?_ _) | (with_reducible refine below_drewN ?_ _) | (with_reducible refine below_drew ?_) | (with_reducible refine below_ext ?_ ?_ _ _) | (with_reducible refine Below.setCell ?_ ?_ _) | (simp; done) | (simp; omega) | omega))) (gr := wB.heap.size) (by exact heap_alloc_new wB _) R2.out (by simp [Act.eval]) hlw2 hgb ?_; intro g2 cap2 w2 hob3 hoth hat hg2 hsz2; obtain ⟨c3, y3⟩ := R3.out w2 hoth; have hnu := R5.out g2 cap2 w2 hob3 hoth hat; have HNU := Lib.hid hnu; have HS2 := Lib.hid (HK2.out _ hoth); have HS3 := Lib.hid (HK3.out _ hnu.2.1); clear hnu hob3 hoth hat hg2 hsz2)
                          refine hK.out _ _ ?r2xhS22 (fun hHeldN => ?r2xrst22)
                          case r2xhS22 => ((try dsimp only); exact HS2.out)
                          clear hHeld hK K
                          have hHeld := hHeldN
                          clear hHeldN
                          refine wpAnyH_ready (rs := [17]) (by kernel_rfl) (by simp) ?_
                          refine AllReadyH.cons (o := ({ dst := some 158, op := Op.indexAddr 58 (Operand.tmp 141) (Operand.tmp 146), type := 0, pos := "ref.go:143", after := #[{ on := 0, ground := Ground.data }, { on := 5, ground := Ground.data }, { on := 0, ground := Ground.phase }, { on := 1, ground := Ground.phase }, { on := 2, ground := Ground.phase }, { on := 3, ground := Ground.phase }, { on := 4, ground := Ground.phase }, { on := 5, ground := Ground.phase }, { on := 6, ground := Ground.phase }, { on := 7, ground := Ground.phase }, { on := 8, ground := Ground.phase }, { on := 9, ground := Ground.phase }, { on := 10, ground := Ground.phase }, { on := 11, ground := Ground.phase }, { on := 12, ground := Ground.phase }, { on := 13, ground := Ground.phase }, { on := 14, ground := Ground.phase }, { on := 15, ground := Ground.phase }, { on := 16, ground := Ground.phase }], guard := none } : Oper)) rfl (fun K hK => ?_) AllReadyH.nil
                          go_simp
                          refine hK.out _ _ ?r2xhS23 (fun hHeldN => ?r2xrst23)
                          case r2xhS23 => ((try dsimp only); exact HS2.out)
                          clear hHeld hK K
                          have hHeld := hHeldN
                          clear hHeldN
                          (try simp only [Act.put, List.setIfInBounds_toArray, List.set_cons_zero, List.set_cons_succ])
                          refine wpAnyH_ready (rs := [18]) (by kernel_rfl) (by simp) ?_
                          refine AllReadyH.cons (o := ({ dst := none, op := Op.store 59 (Operand.tmp 158) (Operand.tmp 157), type := 0, pos := "ref.go:143", after := #[{ on := 17, ground := Ground.data }, { on := 16, ground := Ground.data }, { on := 16, ground := Ground.chain }, { on := 0, ground := Ground.phase }, { on := 1, ground := Ground.phase }, { on := 2, ground := Ground.phase }, { on := 3, ground := Ground.phase }, { on := 4, ground := Ground.phase }, { on := 5, ground := Ground.phase }, { on := 6, ground := Ground.phase }, { on := 7, ground := Ground.phase }, { on := 8, ground := Ground.phase }, { on := 9, ground := Ground.phase }, { on := 10, ground := Ground.phase }, { on := 11, ground := Ground.phase }, { on := 12, ground := Ground.phase }, { on := 13, ground := Ground.phase }, { on := 14, ground := Ground.phase }, { on := 15, ground := Ground.phase }, { on := 16, ground := Ground.phase }], guard := none } : Oper)) rfl (fun K hK => ?_) AllReadyH.nil
                          go_simp
                          refine hK.out _ _ ?r2xhS24 (fun hHeldN => ?r2xrst24)
                          case r2xhS24 => ((try dsimp only); exact HS3.out)
                          clear hHeld hK K
                          have hHeld := hHeldN
                          clear hHeldN
                          refine wpAnyH_done (by kernel_rfl) ?_ _
                          clear hHeld
                          obtain ⟨w5, hw5⟩ : ∃ w5, w5 = w2.setCell ⟨w.heap.size + 1, ka, none⟩ (.slice (some ⟨g2, 0, none⟩) ((W ka).length + 1) cap2) := ⟨_, rfl⟩
                          obtain ⟨x9, e9, e8⟩ := HX9.out _ HNU.out.2.1
                          rw [← hw5] at HNU x9 e9 e8 ⊢
                          clear hw5 c3 y3 x0 x1 e0 e1 HK1 HK2 HK3 HS2 HS3 R2 R3 R5
                          obtain ⟨v5, t1, t2, t3, t4, t5⟩ := HNU.out.1.push (Below.refl _ _) (x := i + 1) (by omega) (X, Y)
                          have T2 := Lib.hid t2
                          have T3 := Lib.hid t3
                          have T5 := Lib.hid t5
                          have hlw5 : ((fun t => if t = ka then W ka ++ [(X, Y)] else W t) (i + 1)).length ≤ 1000000 := by
                            have h7 := (hfw.out (i + 1)).1
                            show (if i + 1 = ka then W ka ++ [(X, Y)] else W (i + 1)).length ≤ 1000000
                            split
                            · have h8 := (hfw.out ka).1
                              rw [List.length_append]; simp; omega
                            · omega
                          have hgb5 : w.heap.size + 1 + 1 ≤ w5.heap.size := Nat.le_trans hgb HNU.out.2.2.1
                          have i1 : ((i : Int) + 1).toNat = i + 1 := by omega
                          have i2 : (0 : Int) ≤ (i : Int) + 1 := by omega
                          have i3 : (i : Int) + 1 < (len : Int) + 1 := by omega
                          have i4 : ¬ (i : Int) + 1 < 0 := by omega
                          have hbb5 : bb < w5.heap.size := Nat.lt_of_lt_of_le hbb2 HNU.out.2.2.1
                          have hgw5 : g < w5.heap.size := Nat.lt_of_lt_of_le hgw3 HNU.out.2.2.1
                          have hv53 : w.heap.size + 1 < w5.heap.size := by omega
                          have hbne5 : ¬ bb = w.heap.size + 1 := hbne
                          have hbno5 : v5.ownBlock ≠ some bb := fun e => by rcases HNU.out.2.2.2 (i + 1) (by omega) v5 t1 bb e with h9 | h9 <;> omega
                          have HK1 := Lib.hid (show ∀ w', Below w5.heap.size w5 w' → (w'.cell? ⟨bb, 0, none⟩ = some (.int .i64 X) ∧ w'.cell? ⟨bb, 1, none⟩ = some (.int .i64 Y)) from fun w' hb => ⟨(hb.cell (p := ⟨bb, 0, none⟩) hbb5).trans e9, (hb.cell (p := ⟨bb, 1, none⟩) hbb5).trans e8⟩)
                          have HK2 := Lib.hid (show ∀ w', Ot (fun k => v5.ownBlock = some k) w5 w' → (w'.cell? ⟨bb, 0, none⟩ = some (.int .i64 X) ∧ w'.cell? ⟨bb, 1, none⟩ = some (.int .i64 Y)) from fun w' ho => ⟨(ho.cell hbb5 hbno5).trans e9, (ho.cell hbb5 hbno5).trans e8⟩)
                          have HK3 := Lib.hid (show ∀ w' : World, (∀ g j, g < w5.heap.size → g ≠ w.heap.size + 1 → v5.ownBlock ≠ some g → w'.cell? ⟨g, j, none⟩ = w5.cell? ⟨g, j, none⟩) → (w'.cell? ⟨bb, 0, none⟩ = some (.int .i64 X) ∧ w'.cell? ⟨bb, 1, none⟩ = some (.int .i64 Y)) from fun w' ho => ⟨(ho bb 0 hbb5 hbne hbno5).trans e9, (ho bb 1 hbb5 hbne hbno5).trans e8⟩)
                          clear t2 t3 t5 t4 HNU
                          go_upto_region 22 with fail
                          refine wp_region_held_drew (S := fun w' => w'.cell? ⟨bb, 0, none⟩ = some (.int .i64 X) ∧ w'.cell? ⟨bb, 1, none⟩ = some (.int .i64 Y)) (by kernel_rfl) ?r5xhSa (fun hHeld => ?r5xresta)
                          case r5xhSa => ((try dsimp only); exact HK1.out _ (by (repeat' (first | (with_reducible exact Below.refl _ _) | (with_reducible assumption) | (with_reducible refine Below.alloc ?_ ?_ _) | (with_reducible refine below_drewN ?_ _) | (with_reducible refine below_drew ?_) | (with_reducible refine below_ext ?_ ?_ _ _) | (with_reducible refine Below.setCell ?_ ?_ _) | (simp; done) | (simp; omega) | omega))))
                          refine wpAnyH_take (i := 0) (oi := ({ dst := some 165, op := Op.move (Operand.tmp 7), type := 58, pos := "ref.go:146", after := #[], guard := none } : Oper)) (v := ?r5xv1) rfl (by kernel_rfl) (by kernel_rfl) (by kernel_rfl) (fun _ _ _ h => h) (Or.inl ⟨by rfl, ?r5xhy1⟩) (by assumption) ?r5xre1
                          case r5xhy1 => (intro w hSw; (try dsimp only at hSw); go_simp; try with_reducible rfl)
                          (try simp only [Act.put, List.setIfInBounds_toArray, List.set_cons_zero, List.set_cons_succ])
                          refine wpAnyH_take (i := 1) (oi := ({ dst := some 166, op := Op.move (Operand.tmp 9), type := 3, pos := "ref.go:146", after := #[], guard := none } : Oper)) (v := ?r5xv2) rfl (by kernel_rfl) (by kernel_rfl) (by kernel_rfl) (fun _ _ _ h => h) (Or.inl ⟨by rfl, ?r5xhy2⟩) (by assumption) ?r5xre2
                          case r5xhy2 => (intro w hSw; (try dsimp only at hSw); go_simp; try with_reducible rfl)
                          (try simp only [Act.put, List.setIfInBounds_toArray, List.set_cons_zero, List.set_cons_succ])
                          refine wpAnyH_take (i := 2) (oi := ({ dst := some 167, op := Op.binOp BinOp.add 3 (Operand.tmp 166) (Operand.const (Value.int IntKind.i64 1)) 3, type := 3, pos := "ref.go:146", after := #[{ on := 1, ground := Ground.data }], guard := none } : Oper)) (v := ?r5xv3) rfl (by kernel_rfl) (by kernel_rfl) (by kernel_rfl) (fun _ _ _ h => h) (Or.inl ⟨by rfl, ?r5xhy3⟩) (by assumption) ?r5xre3
                          case r5xhy3 => (intro w hSw; (try dsimp only at hSw); go_simp; try with_reducible rfl)
                          (try simp only [Act.put, List.setIfInBounds_toArray, List.set_cons_zero, List.set_cons_succ])
                          refine wpAnyH_take (i := 3) (oi := ({ dst := some 168, op := Op.move (Operand.tmp 7), type := 58, pos := "ref.go:146", after := #[], guard := none } : Oper)) (v := ?r5xv4) rfl (by kernel_rfl) (by kernel_rfl) (by kernel_rfl) (fun _ _ _ h => h) (Or.inl ⟨by rfl, ?r5xhy4⟩) (by assumption) ?r5xre4
                          case r5xhy4 => (intro w hSw; (try dsimp only at hSw); go_simp; try with_reducible rfl)
                          (try simp only [Act.put, List.setIfInBounds_toArray, List.set_cons_zero, List.set_cons_succ])
                          refine wpAnyH_take (i := 4) (oi := ({ dst := some 169, op := Op.move (Operand.tmp 9), type := 3, pos := "ref.go:146", after := #[], guard := none } : Oper)) (v := ?r5xv5) rfl (by kernel_rfl) (by kernel_rfl) (by kernel_rfl) (fun _ _ _ h => h) (Or.inl ⟨by rfl, ?r5xhy5⟩) (by assumption) ?r5xre5
                          case r5xhy5 => (intro w hSw; (try dsimp only at hSw); go_simp; try with_reducible rfl)
                          (try simp only [Act.put, List.setIfInBounds_toArray, List.set_cons_zero, List.set_cons_succ])
                          refine wpAnyH_take (i := 5) (oi := ({ dst := some 170, op := Op.binOp BinOp.add 3 (Operand.tmp 169) (Operand.const (Value.int IntKind.i64 1)) 3, type := 3, pos := "ref.go:146", after := #[{ on := 4, ground := Ground.data }], guard := none } : Oper)) (v := ?r5xv6) rfl (by kernel_rfl) (by kernel_rfl) (by kernel_rfl) (fun _ _ _ h => h) (Or.inl ⟨by rfl, ?r5xhy6⟩) (by assumption) ?r5xre6
                          case r5xhy6 => (intro w hSw; (try dsimp only at hSw); go_simp; try with_reducible rfl)
                          (try simp only [Act.put, List.setIfInBounds_toArray, List.set_cons_zero, List.set_cons_succ])
                          refine wpAnyH_take (i := 6) (oi := ({ dst := some 171, op := Op.indexAddr 58 (Operand.tmp 168) (Operand.tmp 170), type := 0, pos := "ref.go:146", after := #[{ on := 3, ground := Ground.data }, { on := 5, ground := Ground.data }], guard := none } : Oper)) (v := ?r5xv7) rfl (by kernel_rfl) (by kernel_rfl) (by kernel_rfl) (fun _ _ _ h => h) (Or.inl ⟨by rfl, ?r5xhy7⟩) (by assumption) ?r5xre7
                          case r5xhy7 => (intro w hSw; (try dsimp only at hSw); go_simp; try with_reducible rfl)
                          (try simp only [Act.put, List.setIfInBounds_toArray, List.set_cons_zero, List.set_cons_succ])
                          refine wpAnyH_take (i := 8) (oi := ({ dst := some 173, op := Op.load 57 (Operand.tmp 15), type := 57, pos := "ref.go:146", after := #[], guard := none } : Oper)) (v := ?r5xv8) rfl (by kernel_rfl) (by kernel_rfl) (by kernel_rfl) (fun _ _ _ h => h) (Or.inl ⟨by rfl, ?r5xhy8⟩) (by assumption) ?r5xre8
                          case r5xhy8 => (intro w hSw; (try dsimp only at hSw); go_simp; try with_reducible rfl)
                          (try simp only [Act.put, List.setIfInBounds_toArray, List.set_cons_zero, List.set_cons_succ])
                          refine wpAnyH_ready (rs := [7, 9]) (by kernel_rfl) (by simp) ?_
                          refine AllReadyH.cons (o := ({ dst := some 172, op := Op.load 59 (Operand.tmp 171), type := 59, pos := "ref.go:146", after := #[{ on := 6, ground := Ground.data }], guard := none } : Oper)) rfl (fun K hK => ?_) ?_
                          · go_simp
                            refine hK.out _ _ ?r5xhS9 (fun hHeldN => ?r5xrst9)
                            case r5xhS9 => ((try dsimp only); exact HK1.out _ (by (repeat' (first | (with_reducible exact Below.refl _ _) | (with_reducible assumption) | (with_reducible refine Below.alloc ?_ ?_ _) | (with_reducible refine below_drewN ?_ _) | (with_reducible refine below_drew ?_) | (with_reducible refine below_ext ?_ ?_ _ _) | (with_reducible refine Below.setCell ?_ ?_ _) | (simp; done) | (simp; omega) | omega))))
                            clear hHeld hK K
                            have hHeld := hHeldN
                            clear hHeldN
                            (try simp only [Act.put, List.setIfInBounds_toArray, List.set_cons_zero, List.set_cons_succ])
                            refine wpAnyH_ready (rs := [9]) (by kernel_rfl) (by simp) ?_
                            refine AllReadyH.cons (o := ({ dst := some 174, op := Op.buildSlice 59 1 #[(0, Operand.tmp 173)], type := 59, pos := "ref.go:146", after := #[{ on := 8, ground := Ground.data }], guard := none } : Oper)) rfl (fun K hK => ?_) AllReadyH.nil
                            go_simp
                            refine hK.out _ _ ?r5xhS10 (fun hHeldN => ?r5xrst10)
                            case r5xhS10 => ((try dsimp only); exact HK1.out _ (by (repeat' (first | (with_reducible exact Below.refl _ _) | (with_reducible assumption) | (with_reducible refine Below.alloc ?_ ?_ _) | (with_reducible refine below_drewN ?_ _) | (with_reducible refine below_drew ?_) | (with_reducible refine below_ext ?_ ?_ _ _) | (with_reducible refine Below.setCell ?_ ?_ _) | (simp; done) | (simp; omega) | omega))))
                            clear hHeld hK K
                            have hHeld := hHeldN
                            clear hHeldN
                            (try simp only [Act.put, List.setIfInBounds_toArray, List.set_cons_zero, List.set_cons_succ])
                            refine wpAnyH_ready (rs := [10]) (by kernel_rfl) (by simp) ?_
                            refine AllReadyH.cons (o := ({ dst := some 175, op := Op.call { callee := Callee.builtin Builtin.append, args := #[Operand.tmp 172, Operand.tmp 174], argTypes := #[59, 59] }, type := 59, pos := "ref.go:146", after := #[{ on := 7, ground := Ground.data }, { on := 9, ground := Ground.data }], guard := none } : Oper)) rfl (fun K hK => ?_) AllReadyH.nil
                            (refine step_append_ol wK_ok wE_cells rfl (.tmp 172) (.tmp 174) rfl rfl w5 (X, Y) (by (repeat' (first | (with_reducible exact Below.refl _ _) | (with_reducible assumption) | (with_reducible refine Below.alloc ?_ ?_ _) | (with_reducible refine below_drewN ?_ _) | (with_reducible refine below_drew ?_) | (with_reducible refine below_ext ?_ ?_ _ _) | (with_reducible refine Below.setCell ?_ ?_ _) | (simp; done) | (simp; omega) | omega))) (gr := w5.heap.size) (by exact heap_alloc_new w5 _) T2.out (by simp [Act.eval]) hlw5 hgb5 ?_; intro g6 cap6 w6 hob3 hoth hat hg2 hsz2; obtain ⟨c3, y3⟩ := T3.out w6 hoth; have hnu := T5.out g6 cap6 w6 hob3 hoth hat; have HNU := Lib.hid hnu; have HS2 := Lib.hid (HK2.out _ hoth); have HS3 := Lib.hid (HK3.out _ hnu.2.1); clear hnu hob3 hoth hat hg2 hsz2)
                            refine hK.out _ _ ?r5xhS11 (fun hHeldN => ?r5xrst11)
                            case r5xhS11 => ((try dsimp only); exact HS2.out)
                            clear hHeld hK K
                            have hHeld := hHeldN
                            clear hHeldN
                            refine wpAnyH_ready (rs := [11]) (by kernel_rfl) (by simp) ?_
                            refine AllReadyH.cons (o := ({ dst := some 176, op := Op.indexAddr 58 (Operand.tmp 165) (Operand.tmp 167), type := 0, pos := "ref.go:146", after := #[{ on := 0, ground := Ground.data }, { on := 2, ground := Ground.data }, { on := 0, ground := Ground.phase }, { on := 1, ground := Ground.phase }, { on := 2, ground := Ground.phase }, { on := 3, ground := Ground.phase }, { on := 4, ground := Ground.phase }, { on := 5, ground := Ground.phase }, { on := 6, ground := Ground.phase }, { on := 7, ground := Ground.phase }, { on := 8, ground := Ground.phase }, { on := 9, ground := Ground.phase }, { on := 10, ground := Ground.phase }], guard := none } : Oper)) rfl (fun K hK => ?_) AllReadyH.nil
                            go_simp
                            refine hK.out _ _ ?r5xhS12 (fun hHeldN => ?r5xrst12)
                            case r5xhS12 => ((try dsimp only); exact HS2.out)
                            clear hHeld hK K
                            have hHeld := hHeldN
                            clear hHeldN
                            (try simp only [Act.put, List.setIfInBounds_toArray, List.set_cons_zero, List.set_cons_succ])
                            refine wpAnyH_ready (rs := [12]) (by kernel_rfl) (by simp) ?_
                            refine AllReadyH.cons (o := ({ dst := none, op := Op.store 59 (Operand.tmp 176) (Operand.tmp 175), type := 0, pos := "ref.go:146", after := #[{ on := 11, ground := Ground.data }, { on := 10, ground := Ground.data }, { on := 10, ground := Ground.chain }, { on := 0, ground := Ground.phase }, { on := 1, ground := Ground.phase }, { on := 2, ground := Ground.phase }, { on := 3, ground := Ground.phase }, { on := 4, ground := Ground.phase }, { on := 5, ground := Ground.phase }, { on := 6, ground := Ground.phase }, { on := 7, ground := Ground.phase }, { on := 8, ground := Ground.phase }, { on := 9, ground := Ground.phase }, { on := 10, ground := Ground.phase }], guard := none } : Oper)) rfl (fun K hK => ?_) AllReadyH.nil
                            go_simp
                            refine hK.out _ _ ?r5xhS13 (fun hHeldN => ?r5xrst13)
                            case r5xhS13 => ((try dsimp only); exact HS3.out)
                            clear hHeld hK K
                            have hHeld := hHeldN
                            clear hHeldN
                            refine wpAnyH_done (by kernel_rfl) ?_ _
                            clear hHeld
                            go_wp2
                            go_roundw
                            case rel => exact ⟨i + 1, M, _, by go_num, rfl, by omega, Lib.hid (HNU.out.1.congr push_both), HFX, HG2⟩
                            case measure => simp [intOf]; omega
                          refine AllReadyH.cons (o := ({ dst := some 174, op := Op.buildSlice 59 1 #[(0, Operand.tmp 173)], type := 59, pos := "ref.go:146", after := #[{ on := 8, ground := Ground.data }], guard := none } : Oper)) rfl (fun K hK => ?_) ?_
                          · go_simp
                            refine hK.out _ _ ?r5xhS14 (fun hHeldN => ?r5xrst14)
                            case r5xhS14 => ((try dsimp only); exact HK1.out _ (by (repeat' (first | (with_reducible exact Below.refl _ _) | (with_reducible assumption) | (with_reducible refine Below.alloc ?_ ?_ _) | (with_reducible refine below_drewN ?_ _) | (with_reducible refine below_drew ?_) | (with_reducible refine below_ext ?_ ?_ _ _) | (with_reducible refine Below.setCell ?_ ?_ _) | (simp; done) | (simp; omega) | omega))))
                            clear hHeld hK K
                            have hHeld := hHeldN
                            clear hHeldN
                            (try simp only [Act.put, List.setIfInBounds_toArray, List.set_cons_zero, List.set_cons_succ])
                            refine wpAnyH_ready (rs := [7]) (by kernel_rfl) (by simp) ?_
                            refine AllReadyH.cons (o := ({ dst := some 172, op := Op.load 59 (Operand.tmp 171), type := 59, pos := "ref.go:146", after := #[{ on := 6, ground := Ground.data }], guard := none } : Oper)) rfl (fun K hK => ?_) AllReadyH.nil
                            go_simp
                            refine hK.out _ _ ?r5xhS15 (fun hHeldN => ?r5xrst15)
                            case r5xhS15 => ((try dsimp only); exact HK1.out _ (by (repeat' (first | (with_reducible exact Below.refl _ _) | (with_reducible assumption) | (with_reducible refine Below.alloc ?_ ?_ _) | (with_reducible refine below_drewN ?_ _) | (with_reducible refine below_drew ?_) | (with_reducible refine below_ext ?_ ?_ _ _) | (with_reducible refine Below.setCell ?_ ?_ _) | (simp; done) | (simp; omega) | omega))))
                            clear hHeld hK K
                            have hHeld := hHeldN
                            clear hHeldN
                            (try simp only [Act.put, List.setIfInBounds_toArray, List.set_cons_zero, List.set_cons_succ])
                            refine wpAnyH_ready (rs := [10]) (by kernel_rfl) (by simp) ?_
                            refine AllReadyH.cons (o := ({ dst := some 175, op := Op.call { callee := Callee.builtin Builtin.append, args := #[Operand.tmp 172, Operand.tmp 174], argTypes := #[59, 59] }, type := 59, pos := "ref.go:146", after := #[{ on := 7, ground := Ground.data }, { on := 9, ground := Ground.data }], guard := none } : Oper)) rfl (fun K hK => ?_) AllReadyH.nil
                            (refine step_append_ol wK_ok wE_cells rfl (.tmp 172) (.tmp 174) rfl rfl w5 (X, Y) (by (repeat' (first | (with_reducible exact Below.refl _ _) | (with_reducible assumption) | (with_reducible refine Below.alloc ?_ ?_ _) | (with_reducible refine below_drewN ?_ _) | (with_reducible refine below_drew ?_) | (with_reducible refine below_ext ?_ ?_ _ _) | (with_reducible refine Below.setCell ?_ ?_ _) | (simp; done) | (simp; omega) | omega))) (gr := w5.heap.size) (by exact heap_alloc_new w5 _) T2.out (by simp [Act.eval]) hlw5 hgb5 ?_; intro g6 cap6 w6 hob3 hoth hat hg2 hsz2; obtain ⟨c3, y3⟩ := T3.out w6 hoth; have hnu := T5.out g6 cap6 w6 hob3 hoth hat; have HNU := Lib.hid hnu; have HS2 := Lib.hid (HK2.out _ hoth); have HS3 := Lib.hid (HK3.out _ hnu.2.1); clear hnu hob3 hoth hat hg2 hsz2)
                            refine hK.out _ _ ?r5xhS16 (fun hHeldN => ?r5xrst16)
                            case r5xhS16 => ((try dsimp only); exact HS2.out)
                            clear hHeld hK K
                            have hHeld := hHeldN
                            clear hHeldN
                            refine wpAnyH_ready (rs := [11]) (by kernel_rfl) (by simp) ?_
                            refine AllReadyH.cons (o := ({ dst := some 176, op := Op.indexAddr 58 (Operand.tmp 165) (Operand.tmp 167), type := 0, pos := "ref.go:146", after := #[{ on := 0, ground := Ground.data }, { on := 2, ground := Ground.data }, { on := 0, ground := Ground.phase }, { on := 1, ground := Ground.phase }, { on := 2, ground := Ground.phase }, { on := 3, ground := Ground.phase }, { on := 4, ground := Ground.phase }, { on := 5, ground := Ground.phase }, { on := 6, ground := Ground.phase }, { on := 7, ground := Ground.phase }, { on := 8, ground := Ground.phase }, { on := 9, ground := Ground.phase }, { on := 10, ground := Ground.phase }], guard := none } : Oper)) rfl (fun K hK => ?_) AllReadyH.nil
                            go_simp
                            refine hK.out _ _ ?r5xhS17 (fun hHeldN => ?r5xrst17)
                            case r5xhS17 => ((try dsimp only); exact HS2.out)
                            clear hHeld hK K
                            have hHeld := hHeldN
                            clear hHeldN
                            (try simp only [Act.put, List.setIfInBounds_toArray, List.set_cons_zero, List.set_cons_succ])
                            refine wpAnyH_ready (rs := [12]) (by kernel_rfl) (by simp) ?_
                            refine AllReadyH.cons (o := ({ dst := none, op := Op.store 59 (Operand.tmp 176) (Operand.tmp 175), type := 0, pos := "ref.go:146", after := #[{ on := 11, ground := Ground.data }, { on := 10, ground := Ground.data }, { on := 10, ground := Ground.chain }, { on := 0, ground := Ground.phase }, { on := 1, ground := Ground.phase }, { on := 2, ground := Ground.phase }, { on := 3, ground := Ground.phase }, { on := 4, ground := Ground.phase }, { on := 5, ground := Ground.phase }, { on := 6, ground := Ground.phase }, { on := 7, ground := Ground.phase }, { on := 8, ground := Ground.phase }, { on := 9, ground := Ground.phase }, { on := 10, ground := Ground.phase }], guard := none } : Oper)) rfl (fun K hK => ?_) AllReadyH.nil
                            go_simp
                            refine hK.out _ _ ?r5xhS18 (fun hHeldN => ?r5xrst18)
                            case r5xhS18 => ((try dsimp only); exact HS3.out)
                            clear hHeld hK K
                            have hHeld := hHeldN
                            clear hHeldN
                            refine wpAnyH_done (by kernel_rfl) ?_ _
                            clear hHeld
                            go_wp2
                            go_roundw
                            case rel => exact ⟨i + 1, M, _, by go_num, rfl, by omega, Lib.hid (HNU.out.1.congr push_both), HFX, HG2⟩
                            case measure => simp [intOf]; omega
                          exact AllReadyH.nil
                        exact AllReadyH.nil
                      · have HF := Lib.hid (HNO.out (fun h => hj (h (by decide))))
                        have hbad : (ka : Int) ≤ (i : Int) ∨ (¬ (ka : Int) ≤ (i : Int) ∧ (len : Int) < (ka : Int)) := by omega
                        clear HGO HNO HFX HWS4 HWS5 hj
                        rcases hbad with hb0 | ⟨hb0, hb00⟩
                        all_goals
                          go_wp2
                          go_ret2
                          exact DvQ.no HF.out (HBE.out.trans ((HBW.out.mono hsw).trans (by (repeat' (first | (with_reducible exact Below.refl _ _) | (with_reducible assumption) | (with_reducible refine Below.alloc ?_ ?_ _) | (with_reducible refine below_drewN ?_ _) | (with_reducible refine below_drew ?_) | (with_reducible refine below_ext ?_ ?_ _ _) | (with_reducible refine Below.setCell ?_ ?_ _) | (simp; done) | (simp; omega) | omega)))))
                    · have q101 : (op == 101) = false := beq_eq_false_iff_ne.2 h101
                      have q102 : (op == 102) = false := beq_eq_false_iff_ne.2 h102
                      have n101 : (op != 101) = true := by unfold bne; rw [q101]; rfl
                      have hnj : ¬ jmp op := by unfold jmp; omega
                      have HG2 := Lib.hid (HGO.out (fun h => absurd h hnj))
                      have HPP := Lib.hid (fun j => push_plain (W := W) (i := i) (a := (ka : Int)) (s := (X, Y)) hnj j)
                      obtain ⟨v', r1, r2, r3, r4, r5⟩ := HWS4.out.push hbd (x := i + 1) (by omega) (X, Y)
                      have R2 := Lib.hid r2
                      have R3 := Lib.hid r3
                      have R5 := Lib.hid r5
                      have hlw := (HFX.out (i + 1)).1
                      have hlw2 : (W (i + 1)).length ≤ 1000000 := by
                        have := (hfw.out (i + 1)).1; omega
                      have hbne : ¬ bb = w.heap.size + 1 := by omega
                      have hbno : v'.ownBlock ≠ some bb := fun e => by have := (r4 bb e).2; omega
                      clear r2 r3 r5 h101 h102 hlw HGO HNO r4
                      have i1 : ((i : Int) + 1).toNat = i + 1 := by omega
                      have i2 : (0 : Int) ≤ (i : Int) + 1 := by omega
                      have i3 : (i : Int) + 1 < (len : Int) + 1 := by omega
                      have i4 : ¬ (i : Int) + 1 < 0 := by omega
                      have HK1 := Lib.hid (show ∀ w', Below wB.heap.size wB w' → (w'.cell? ⟨bb, 0, none⟩ = some (.int .i64 X) ∧ w'.cell? ⟨bb, 1, none⟩ = some (.int .i64 Y)) from fun w' hb => ⟨(hb.cell (p := ⟨bb, 0, none⟩) hbb2).trans e0, (hb.cell (p := ⟨bb, 1, none⟩) hbb2).trans e1⟩)
                      have HK2 := Lib.hid (show ∀ w', Ot (fun k => v'.ownBlock = some k) wB w' → (w'.cell? ⟨bb, 0, none⟩ = some (.int .i64 X) ∧ w'.cell? ⟨bb, 1, none⟩ = some (.int .i64 Y)) from fun w' ho => ⟨(ho.cell hbb2 hbno).trans e0, (ho.cell hbb2 hbno).trans e1⟩)
                      have HK3 := Lib.hid (show ∀ w' : World, (∀ g j, g < wB.heap.size → g ≠ w.heap.size + 1 → v'.ownBlock ≠ some g → w'.cell? ⟨g, j, none⟩ = wB.cell? ⟨g, j, none⟩) → (w'.cell? ⟨bb, 0, none⟩ = some (.int .i64 X) ∧ w'.cell? ⟨bb, 1, none⟩ = some (.int .i64 Y)) from fun w' ho => ⟨(ho bb 0 hbb2 hbne hbno).trans e0, (ho bb 1 hbb2 hbne hbno).trans e1⟩)
                      go_upto_region 22 with fail
                      refine wp_region_held_drew (S := fun w' => w'.cell? ⟨bb, 0, none⟩ = some (.int .i64 X) ∧ w'.cell? ⟨bb, 1, none⟩ = some (.int .i64 Y)) (by kernel_rfl) ?r3xhSa (fun hHeld => ?r3xresta)
                      case r3xhSa => ((try dsimp only); exact HK1.out _ (by (repeat' (first | (with_reducible exact Below.refl _ _) | (with_reducible assumption) | (with_reducible refine Below.alloc ?_ ?_ _) | (with_reducible refine below_drewN ?_ _) | (with_reducible refine below_drew ?_) | (with_reducible refine below_ext ?_ ?_ _ _) | (with_reducible refine Below.setCell ?_ ?_ _) | (simp; done) | (simp; omega) | omega))))
                      refine wpAnyH_take (i := 0) (oi := ({ dst := some 165, op := Op.move (Operand.tmp 7), type := 58, pos := "ref.go:146", after := #[], guard := none } : Oper)) (v := ?r3xv1) rfl (by kernel_rfl) (by kernel_rfl) (by kernel_rfl) (fun _ _ _ h => h) (Or.inl ⟨by rfl, ?r3xhy1⟩) (by assumption) ?r3xre1
                      case r3xhy1 => (intro w hSw; (try dsimp only at hSw); go_simp; try with_reducible rfl)
                      (try simp only [Act.put, List.setIfInBounds_toArray, List.set_cons_zero, List.set_cons_succ])
                      refine wpAnyH_take (i := 1) (oi := ({ dst := some 166, op := Op.move (Operand.tmp 9), type := 3, pos := "ref.go:146", after := #[], guard := none } : Oper)) (v := ?r3xv2) rfl (by kernel_rfl) (by kernel_rfl) (by kernel_rfl) (fun _ _ _ h => h) (Or.inl ⟨by rfl, ?r3xhy2⟩) (by assumption) ?r3xre2
                      case r3xhy2 => (intro w hSw; (try dsimp only at hSw); go_simp; try with_reducible rfl)
                      (try simp only [Act.put, List.setIfInBounds_toArray, List.set_cons_zero, List.set_cons_succ])
                      refine wpAnyH_take (i := 2) (oi := ({ dst := some 167, op := Op.binOp BinOp.add 3 (Operand.tmp 166) (Operand.const (Value.int IntKind.i64 1)) 3, type := 3, pos := "ref.go:146", after := #[{ on := 1, ground := Ground.data }], guard := none } : Oper)) (v := ?r3xv3) rfl (by kernel_rfl) (by kernel_rfl) (by kernel_rfl) (fun _ _ _ h => h) (Or.inl ⟨by rfl, ?r3xhy3⟩) (by assumption) ?r3xre3
                      case r3xhy3 => (intro w hSw; (try dsimp only at hSw); go_simp; try with_reducible rfl)
                      (try simp only [Act.put, List.setIfInBounds_toArray, List.set_cons_zero, List.set_cons_succ])
                      refine wpAnyH_take (i := 3) (oi := ({ dst := some 168, op := Op.move (Operand.tmp 7), type := 58, pos := "ref.go:146", after := #[], guard := none } : Oper)) (v := ?r3xv4) rfl (by kernel_rfl) (by kernel_rfl) (by kernel_rfl) (fun _ _ _ h => h) (Or.inl ⟨by rfl, ?r3xhy4⟩) (by assumption) ?r3xre4
                      case r3xhy4 => (intro w hSw; (try dsimp only at hSw); go_simp; try with_reducible rfl)
                      (try simp only [Act.put, List.setIfInBounds_toArray, List.set_cons_zero, List.set_cons_succ])
                      refine wpAnyH_take (i := 4) (oi := ({ dst := some 169, op := Op.move (Operand.tmp 9), type := 3, pos := "ref.go:146", after := #[], guard := none } : Oper)) (v := ?r3xv5) rfl (by kernel_rfl) (by kernel_rfl) (by kernel_rfl) (fun _ _ _ h => h) (Or.inl ⟨by rfl, ?r3xhy5⟩) (by assumption) ?r3xre5
                      case r3xhy5 => (intro w hSw; (try dsimp only at hSw); go_simp; try with_reducible rfl)
                      (try simp only [Act.put, List.setIfInBounds_toArray, List.set_cons_zero, List.set_cons_succ])
                      refine wpAnyH_take (i := 5) (oi := ({ dst := some 170, op := Op.binOp BinOp.add 3 (Operand.tmp 169) (Operand.const (Value.int IntKind.i64 1)) 3, type := 3, pos := "ref.go:146", after := #[{ on := 4, ground := Ground.data }], guard := none } : Oper)) (v := ?r3xv6) rfl (by kernel_rfl) (by kernel_rfl) (by kernel_rfl) (fun _ _ _ h => h) (Or.inl ⟨by rfl, ?r3xhy6⟩) (by assumption) ?r3xre6
                      case r3xhy6 => (intro w hSw; (try dsimp only at hSw); go_simp; try with_reducible rfl)
                      (try simp only [Act.put, List.setIfInBounds_toArray, List.set_cons_zero, List.set_cons_succ])
                      refine wpAnyH_take (i := 6) (oi := ({ dst := some 171, op := Op.indexAddr 58 (Operand.tmp 168) (Operand.tmp 170), type := 0, pos := "ref.go:146", after := #[{ on := 3, ground := Ground.data }, { on := 5, ground := Ground.data }], guard := none } : Oper)) (v := ?r3xv7) rfl (by kernel_rfl) (by kernel_rfl) (by kernel_rfl) (fun _ _ _ h => h) (Or.inl ⟨by rfl, ?r3xhy7⟩) (by assumption) ?r3xre7
                      case r3xhy7 => (intro w hSw; (try dsimp only at hSw); go_simp; try with_reducible rfl)
                      (try simp only [Act.put, List.setIfInBounds_toArray, List.set_cons_zero, List.set_cons_succ])
                      refine wpAnyH_take (i := 8) (oi := ({ dst := some 173, op := Op.load 57 (Operand.tmp 15), type := 57, pos := "ref.go:146", after := #[], guard := none } : Oper)) (v := ?r3xv8) rfl (by kernel_rfl) (by kernel_rfl) (by kernel_rfl) (fun _ _ _ h => h) (Or.inl ⟨by rfl, ?r3xhy8⟩) (by assumption) ?r3xre8
                      case r3xhy8 => (intro w hSw; (try dsimp only at hSw); go_simp; try with_reducible rfl)
                      (try simp only [Act.put, List.setIfInBounds_toArray, List.set_cons_zero, List.set_cons_succ])
                      refine wpAnyH_ready (rs := [7, 9]) (by kernel_rfl) (by simp) ?_
                      refine AllReadyH.cons (o := ({ dst := some 172, op := Op.load 59 (Operand.tmp 171), type := 59, pos := "ref.go:146", after := #[{ on := 6, ground := Ground.data }], guard := none } : Oper)) rfl (fun K hK => ?_) ?_
                      · go_simp
                        refine hK.out _ _ ?r3xhS9 (fun hHeldN => ?r3xrst9)
                        case r3xhS9 => ((try dsimp only); exact HK1.out _ (by (repeat' (first | (with_reducible exact Below.refl _ _) | (with_reducible assumption) | (with_reducible refine Below.alloc ?_ ?_ _) | (with_reducible refine below_drewN ?_ _) | (with_reducible refine below_drew ?_) | (with_reducible refine below_ext ?_ ?_ _ _) | (with_reducible refine Below.setCell ?_ ?_ _) | (simp; done) | (simp; omega) | omega))))
                        clear hHeld hK K
                        have hHeld := hHeldN
                        clear hHeldN
                        (try simp only [Act.put, List.setIfInBounds_toArray, List.set_cons_zero, List.set_cons_succ])
                        refine wpAnyH_ready (rs := [9]) (by kernel_rfl) (by simp) ?_
                        refine AllReadyH.cons (o := ({ dst := some 174, op := Op.buildSlice 59 1 #[(0, Operand.tmp 173)], type := 59, pos := "ref.go:146", after := #[{ on := 8, ground := Ground.data }], guard := none } : Oper)) rfl (fun K hK => ?_) AllReadyH.nil
                        go_simp
                        refine hK.out _ _ ?r3xhS10 (fun hHeldN => ?r3xrst10)
                        case r3xhS10 => ((try dsimp only); exact HK1.out _ (by (repeat' (first | (with_reducible exact Below.refl _ _) | (with_reducible assumption) | (with_reducible refine Below.alloc ?_ ?_ _) | (with_reducible refine below_drewN ?_ _) | (with_reducible refine below_drew ?_) | (with_reducible refine below_ext ?_ ?_ _ _) | (with_reducible refine Below.setCell ?_ ?_ _) | (simp; done) | (simp; omega) | omega))))
                        clear hHeld hK K
                        have hHeld := hHeldN
                        clear hHeldN
                        (try simp only [Act.put, List.setIfInBounds_toArray, List.set_cons_zero, List.set_cons_succ])
                        refine wpAnyH_ready (rs := [10]) (by kernel_rfl) (by simp) ?_
                        refine AllReadyH.cons (o := ({ dst := some 175, op := Op.call { callee := Callee.builtin Builtin.append, args := #[Operand.tmp 172, Operand.tmp 174], argTypes := #[59, 59] }, type := 59, pos := "ref.go:146", after := #[{ on := 7, ground := Ground.data }, { on := 9, ground := Ground.data }], guard := none } : Oper)) rfl (fun K hK => ?_) AllReadyH.nil
                        (refine step_append_ol wK_ok wE_cells rfl (.tmp 172) (.tmp 174) rfl rfl wB (X, Y) (by (repeat' (first | (with_reducible exact Below.refl _ _) | (with_reducible assumption) | (with_reducible refine Below.alloc ?_ ?_ _) | (with_reducible refine below_drewN ?_ _) | (with_reducible refine below_drew ?_) | (with_reducible refine below_ext ?_ ?_ _ _) | (with_reducible refine Below.setCell ?_ ?_ _) | (simp; done) | (simp; omega) | omega))) (gr := wB.heap.size) (by exact heap_alloc_new wB _) R2.out (by simp [Act.eval]) hlw2 hgb ?_; intro g2 cap2 w2 hob3 hoth hat hg2 hsz2; obtain ⟨c3, y3⟩ := R3.out w2 hoth; have hnu := R5.out g2 cap2 w2 hob3 hoth hat; have HNU := Lib.hid hnu; have HS2 := Lib.hid (HK2.out _ hoth); have HS3 := Lib.hid (HK3.out _ hnu.2.1); clear hnu hob3 hoth hat hg2 hsz2)
                        refine hK.out _ _ ?r3xhS11 (fun hHeldN => ?r3xrst11)
                        case r3xhS11 => ((try dsimp only); exact HS2.out)
                        clear hHeld hK K
                        have hHeld := hHeldN
                        clear hHeldN
                        refine wpAnyH_ready (rs := [11]) (by kernel_rfl) (by simp) ?_
                        refine AllReadyH.cons (o := ({ dst := some 176, op := Op.indexAddr 58 (Operand.tmp 165) (Operand.tmp 167), type := 0, pos := "ref.go:146", after := #[{ on := 0, ground := Ground.data }, { on := 2, ground := Ground.data }, { on := 0, ground := Ground.phase }, { on := 1, ground := Ground.phase }, { on := 2, ground := Ground.phase }, { on := 3, ground := Ground.phase }, { on := 4, ground := Ground.phase }, { on := 5, ground := Ground.phase }, { on := 6, ground := Ground.phase }, { on := 7, ground := Ground.phase }, { on := 8, ground := Ground.phase }, { on := 9, ground := Ground.phase }, { on := 10, ground := Ground.phase }], guard := none } : Oper)) rfl (fun K hK => ?_) AllReadyH.nil
                        go_simp
                        refine hK.out _ _ ?r3xhS12 (fun hHeldN => ?r3xrst12)
                        case r3xhS12 => ((try dsimp only); exact HS2.out)
                        clear hHeld hK K
                        have hHeld := hHeldN
                        clear hHeldN
                        (try simp only [Act.put, List.setIfInBounds_toArray, List.set_cons_zero, List.set_cons_succ])
                        refine wpAnyH_ready (rs := [12]) (by kernel_rfl) (by simp) ?_
                        refine AllReadyH.cons (o := ({ dst := none, op := Op.store 59 (Operand.tmp 176) (Operand.tmp 175), type := 0, pos := "ref.go:146", after := #[{ on := 11, ground := Ground.data }, { on := 10, ground := Ground.data }, { on := 10, ground := Ground.chain }, { on := 0, ground := Ground.phase }, { on := 1, ground := Ground.phase }, { on := 2, ground := Ground.phase }, { on := 3, ground := Ground.phase }, { on := 4, ground := Ground.phase }, { on := 5, ground := Ground.phase }, { on := 6, ground := Ground.phase }, { on := 7, ground := Ground.phase }, { on := 8, ground := Ground.phase }, { on := 9, ground := Ground.phase }, { on := 10, ground := Ground.phase }], guard := none } : Oper)) rfl (fun K hK => ?_) AllReadyH.nil
                        go_simp
                        refine hK.out _ _ ?r3xhS13 (fun hHeldN => ?r3xrst13)
                        case r3xhS13 => ((try dsimp only); exact HS3.out)
                        clear hHeld hK K
                        have hHeld := hHeldN
                        clear hHeldN
                        refine wpAnyH_done (by kernel_rfl) ?_ _
                        clear hHeld
                        go_wp2
                        go_roundw
                        case rel => exact ⟨i + 1, M, _, by go_num, rfl, by omega, Lib.hid (HNU.out.1.congr HPP.out), HFX, HG2⟩
                        case measure => simp [intOf]; omega
                      refine AllReadyH.cons (o := ({ dst := some 174, op := Op.buildSlice 59 1 #[(0, Operand.tmp 173)], type := 59, pos := "ref.go:146", after := #[{ on := 8, ground := Ground.data }], guard := none } : Oper)) rfl (fun K hK => ?_) ?_
                      · go_simp
                        refine hK.out _ _ ?r3xhS14 (fun hHeldN => ?r3xrst14)
                        case r3xhS14 => ((try dsimp only); exact HK1.out _ (by (repeat' (first | (with_reducible exact Below.refl _ _) | (with_reducible assumption) | (with_reducible refine Below.alloc ?_ ?_ _) | (with_reducible refine below_drewN ?_ _) | (with_reducible refine below_drew ?_) | (with_reducible refine below_ext ?_ ?_ _ _) | (with_reducible refine Below.setCell ?_ ?_ _) | (simp; done) | (simp; omega) | omega))))
                        clear hHeld hK K
                        have hHeld := hHeldN
                        clear hHeldN
                        (try simp only [Act.put, List.setIfInBounds_toArray, List.set_cons_zero, List.set_cons_succ])
                        refine wpAnyH_ready (rs := [7]) (by kernel_rfl) (by simp) ?_
                        refine AllReadyH.cons (o := ({ dst := some 172, op := Op.load 59 (Operand.tmp 171), type := 59, pos := "ref.go:146", after := #[{ on := 6, ground := Ground.data }], guard := none } : Oper)) rfl (fun K hK => ?_) AllReadyH.nil
                        go_simp
                        refine hK.out _ _ ?r3xhS15 (fun hHeldN => ?r3xrst15)
                        case r3xhS15 => ((try dsimp only); exact HK1.out _ (by (repeat' (first | (with_reducible exact Below.refl _ _) | (with_reducible assumption) | (with_reducible refine Below.alloc ?_ ?_ _) | (with_reducible refine below_drewN ?_ _) | (with_reducible refine below_drew ?_) | (with_reducible refine below_ext ?_ ?_ _ _) | (with_reducible refine Below.setCell ?_ ?_ _) | (simp; done) | (simp; omega) | omega))))
                        clear hHeld hK K
                        have hHeld := hHeldN
                        clear hHeldN
                        (try simp only [Act.put, List.setIfInBounds_toArray, List.set_cons_zero, List.set_cons_succ])
                        refine wpAnyH_ready (rs := [10]) (by kernel_rfl) (by simp) ?_
                        refine AllReadyH.cons (o := ({ dst := some 175, op := Op.call { callee := Callee.builtin Builtin.append, args := #[Operand.tmp 172, Operand.tmp 174], argTypes := #[59, 59] }, type := 59, pos := "ref.go:146", after := #[{ on := 7, ground := Ground.data }, { on := 9, ground := Ground.data }], guard := none } : Oper)) rfl (fun K hK => ?_) AllReadyH.nil
                        (refine step_append_ol wK_ok wE_cells rfl (.tmp 172) (.tmp 174) rfl rfl wB (X, Y) (by (repeat' (first | (with_reducible exact Below.refl _ _) | (with_reducible assumption) | (with_reducible refine Below.alloc ?_ ?_ _) | (with_reducible refine below_drewN ?_ _) | (with_reducible refine below_drew ?_) | (with_reducible refine below_ext ?_ ?_ _ _) | (with_reducible refine Below.setCell ?_ ?_ _) | (simp; done) | (simp; omega) | omega))) (gr := wB.heap.size) (by exact heap_alloc_new wB _) R2.out (by simp [Act.eval]) hlw2 hgb ?_; intro g2 cap2 w2 hob3 hoth hat hg2 hsz2; obtain ⟨c3, y3⟩ := R3.out w2 hoth; have hnu := R5.out g2 cap2 w2 hob3 hoth hat; have HNU := Lib.hid hnu; have HS2 := Lib.hid (HK2.out _ hoth); have HS3 := Lib.hid (HK3.out _ hnu.2.1); clear hnu hob3 hoth hat hg2 hsz2)
                        refine hK.out _ _ ?r3xhS16 (fun hHeldN => ?r3xrst16)
                        case r3xhS16 => ((try dsimp only); exact HS2.out)
                        clear hHeld hK K
                        have hHeld := hHeldN
                        clear hHeldN
                        refine wpAnyH_ready (rs := [11]) (by kernel_rfl) (by simp) ?_
                        refine AllReadyH.cons (o := ({ dst := some 176, op := Op.indexAddr 58 (Operand.tmp 165) (Operand.tmp 167), type := 0, pos := "ref.go:146", after := #[{ on := 0, ground := Ground.data }, { on := 2, ground := Ground.data }, { on := 0, ground := Ground.phase }, { on := 1, ground := Ground.phase }, { on := 2, ground := Ground.phase }, { on := 3, ground := Ground.phase }, { on := 4, ground := Ground.phase }, { on := 5, ground := Ground.phase }, { on := 6, ground := Ground.phase }, { on := 7, ground := Ground.phase }, { on := 8, ground := Ground.phase }, { on := 9, ground := Ground.phase }, { on := 10, ground := Ground.phase }], guard := none } : Oper)) rfl (fun K hK => ?_) AllReadyH.nil
                        go_simp
                        refine hK.out _ _ ?r3xhS17 (fun hHeldN => ?r3xrst17)
                        case r3xhS17 => ((try dsimp only); exact HS2.out)
                        clear hHeld hK K
                        have hHeld := hHeldN
                        clear hHeldN
                        (try simp only [Act.put, List.setIfInBounds_toArray, List.set_cons_zero, List.set_cons_succ])
                        refine wpAnyH_ready (rs := [12]) (by kernel_rfl) (by simp) ?_
                        refine AllReadyH.cons (o := ({ dst := none, op := Op.store 59 (Operand.tmp 176) (Operand.tmp 175), type := 0, pos := "ref.go:146", after := #[{ on := 11, ground := Ground.data }, { on := 10, ground := Ground.data }, { on := 10, ground := Ground.chain }, { on := 0, ground := Ground.phase }, { on := 1, ground := Ground.phase }, { on := 2, ground := Ground.phase }, { on := 3, ground := Ground.phase }, { on := 4, ground := Ground.phase }, { on := 5, ground := Ground.phase }, { on := 6, ground := Ground.phase }, { on := 7, ground := Ground.phase }, { on := 8, ground := Ground.phase }, { on := 9, ground := Ground.phase }, { on := 10, ground := Ground.phase }], guard := none } : Oper)) rfl (fun K hK => ?_) AllReadyH.nil
                        go_simp
                        refine hK.out _ _ ?r3xhS18 (fun hHeldN => ?r3xrst18)
                        case r3xhS18 => ((try dsimp only); exact HS3.out)
                        clear hHeld hK K
                        have hHeld := hHeldN
                        clear hHeldN
                        refine wpAnyH_done (by kernel_rfl) ?_ _
                        clear hHeld
                        go_wp2
                        go_roundw
                        case rel => exact ⟨i + 1, M, _, by go_num, rfl, by omega, Lib.hid (HNU.out.1.congr HPP.out), HFX, HG2⟩
                        case measure => simp [intOf]; omega
                      exact AllReadyH.nil
            · have HF := Lib.hid (show O = none by rw [← HPR.out]; exact doc_no (.inr (.inr ⟨_, htk, by rw [hst2]; exact fun e => hok ⟨e.1, e.2.1⟩⟩)))
              have hbad : s1 < off ∨ (¬ s1 < off ∧ s2 < ask) := by omega
              clear htk HPR hws hfw hfi hln hal hst2 h0n hok hsb
              rcases hbad with hb0 | ⟨hb0, hb00⟩
              all_goals
                go_wp2_with (first
                  | (go_at_call 24; (with_reducible refine (HTK2.out _).mono ?_); rintro e w2 ⟨rfl, hb1⟩; obtain ⟨osA, dA, rfl⟩ := ext_of_below hb1; clear hb1)
                  | (go_at_call 25; (with_reducible refine (HALK.out _ (by (repeat' (first | (with_reducible exact Below.refl _ _) | (with_reducible assumption) | (with_reducible refine Below.alloc ?_ ?_ _) | (with_reducible refine below_drewN ?_ _) | (with_reducible refine below_drew ?_) | (with_reducible refine below_ext ?_ ?_ _ _) | (with_reducible refine Below.setCell ?_ ?_ _) | (simp; done) | (simp; omega) | omega)))).mono ?_); rintro e w2 ⟨rfl, d2, rfl⟩))
                go_ret2
                exact DvQ.no HF.out (HBE.out.trans (by (repeat' (first | (with_reducible exact Below.refl _ _) | (with_reducible assumption) | (with_reducible refine Below.alloc ?_ ?_ _) | (with_reducible refine below_drewN ?_ _) | (with_reducible refine below_drew ?_) | (with_reducible refine below_ext ?_ ?_ _ _) | (with_reducible refine Below.setCell ?_ ?_ _) | (simp; done) | (simp; omega) | omega))))
      · obtain rfl : i = len := by omega
        have hlti : ¬ (i : Int) < (i : Int) := by omega
        have hlti2 : (i : Int) < (i : Int) + 1 := by omega
        have HE := Lib.hid (show O = if alike (W i) = true ∧ (W i).head? = some (1, fin) then some (max most 1) else none by
          rw [← hpr.out, List.drop_eq_nil_of_le (by rw [← HL.out]; exact Nat.le_refl _)]; rfl)
        have hc1 := hws.out.c1
        have HBE := Lib.hid hws.out.bel
        have hws1 : w.heap.size < wr.heap.size := by have := hws.out.lt; omega
        have hsw : w.heap.size ≤ wr.heap.size := by omega
        obtain ⟨v, hv1, hv2, hv3, hv4, hv5, hv6⟩ := hws.out.row.at (x := i) (by omega)
        have hfi := hfw.out i
        have HOLi := Lib.hid hv2
        have HALK := Lib.hid (fun w' (hb : Below wr.heap.size wr w') => alike_any (W i) w' v (OL.wrd (OL.new hv2 hb)) (by omega))
        obtain ⟨q, c1, rfl, hq1, -⟩ := OL.form hv2
        obtain ⟨ln, hln⟩ : ∃ ln, ln = (W i).length := ⟨_, rfl⟩
        obtain ⟨al, hal⟩ : ∃ al, al = alike (W i) := ⟨_, rfl⟩
        rw [← hln] at hv1 HALK
        rw [← hal] at HALK HE
        clear hv2 hv3 hv5 hv6 hpr hws hfw HL H2
        cases al with
        | false =>
          have HF := Lib.hid (show O = none by rw [HE.out]; simp)
          have HCS := Lib.hid (show ∀ w', Below wr.heap.size wr w' → w'.cell? ⟨w.heap.size, 1, none⟩ = some (.int .i64 fin) from fun w' hb => (hb.cell (p := ⟨w.heap.size, 1, none⟩) hws1).trans hc1)
          clear hfi hq1 hln hal HOLi HE
          go_wp2_with fail
          refine wp_region_held_drew (S := fun w' => w'.cell? ⟨w.heap.size, 1, none⟩ = some (.int .i64 fin)) (by kernel_rfl) ?lastxhSa (fun hHeld => ?lastxresta)
          case lastxhSa => ((try dsimp only); exact HCS.out _ (by (repeat' (first | (with_reducible exact Below.refl _ _) | (with_reducible assumption) | (with_reducible refine Below.alloc ?_ ?_ _) | (with_reducible refine below_drewN ?_ _) | (with_reducible refine below_drew ?_) | (with_reducible refine below_ext ?_ ?_ _ _) | (with_reducible refine Below.setCell ?_ ?_ _) | (simp; done) | (simp; omega) | omega))))
          refine wpAnyH_take (i := 0) (oi := ({ dst := some 182, op := Op.move (Operand.tmp 16), type := 59, pos := "ref.go:150", after := #[], guard := none } : Oper)) (v := ?lastxv1) rfl (by kernel_rfl) (by kernel_rfl) (by kernel_rfl) (fun _ _ _ h => h) (Or.inl ⟨by rfl, ?lastxhy1⟩) (by assumption) ?lastxre1
          case lastxhy1 => (intro w hSw; (try dsimp only at hSw); go_simp; try with_reducible rfl)
          (try simp only [Act.put, List.setIfInBounds_toArray, List.set_cons_zero, List.set_cons_succ])
          refine wpAnyH_ready (rs := [1]) (by kernel_rfl) (by simp) ?_
          refine AllReadyH.cons (o := ({ dst := some 183, op := Op.call { callee := Callee.value (Operand.func 25), args := #[Operand.tmp 182], argTypes := #[59] }, type := 4, pos := "ref.go:150", after := #[{ on := 0, ground := Ground.data }], guard := none } : Oper)) rfl (fun K hK => ?_) AllReadyH.nil
          go_simp
          (go_at_call 25; (with_reducible refine (HALK.out _ (by (repeat' (first | (with_reducible exact Below.refl _ _) | (with_reducible assumption) | (with_reducible refine Below.alloc ?_ ?_ _) | (with_reducible refine below_drewN ?_ _) | (with_reducible refine below_drew ?_) | (with_reducible refine below_ext ?_ ?_ _ _) | (with_reducible refine Below.setCell ?_ ?_ _) | (simp; done) | (simp; omega) | omega)))).mono ?_); rintro e w2 ⟨rfl, d2, rfl⟩)
          refine hK.out _ _ ?lastxhS2 (fun hHeldN => ?lastxrst2)
          case lastxhS2 => ((try dsimp only); exact HCS.out _ (by (repeat' (first | (with_reducible exact Below.refl _ _) | (with_reducible assumption) | (with_reducible refine Below.alloc ?_ ?_ _) | (with_reducible refine below_drewN ?_ _) | (with_reducible refine below_drew ?_) | (with_reducible refine below_ext ?_ ?_ _ _) | (with_reducible refine Below.setCell ?_ ?_ _) | (simp; done) | (simp; omega) | omega))))
          clear hHeld hK K
          have hHeld := hHeldN
          clear hHeldN
          refine wpAnyH_take (i := 2) (oi := ({ dst := some 184, op := Op.unOp UnOp.not 4 (Operand.tmp 183), type := 4, pos := "ref.go:150", after := #[{ on := 1, ground := Ground.data }], guard := none } : Oper)) (v := ?lastxv3) rfl (by kernel_rfl) (by kernel_rfl) (by kernel_rfl) (fun _ _ _ h => h) (Or.inl ⟨by rfl, ?lastxhy3⟩) (by assumption) ?lastxre3
          case lastxhy3 => (intro w hSw; (try dsimp only at hSw); go_simp; try with_reducible rfl)
          (try simp only [Act.put, List.setIfInBounds_toArray, List.set_cons_zero, List.set_cons_succ])
          refine wpAnyH_take (i := 3) (oi := ({ dst := some 185, op := Op.move (Operand.tmp 184), type := 4, pos := "ref.go:150", after := #[{ on := 2, ground := Ground.data }, { on := 1, ground := Ground.chain }], guard := none } : Oper)) (v := ?lastxv4) rfl (by kernel_rfl) (by kernel_rfl) (by kernel_rfl) (fun _ _ _ h => h) (Or.inl ⟨by rfl, ?lastxhy4⟩) (by assumption) ?lastxre4
          case lastxhy4 => (intro w hSw; (try dsimp only at hSw); go_simp; try with_reducible rfl)
          (try simp only [Act.put, List.setIfInBounds_toArray, List.set_cons_zero, List.set_cons_succ])
          refine wpAnyH_take (i := 4) (oi := ({ dst := some 186, op := Op.move (Operand.tmp 16), type := 59, pos := "ref.go:150", after := #[{ on := 3, ground := Ground.guard }], guard := some (3, false) } : Oper)) (v := undef) rfl (by kernel_rfl) (by kernel_rfl) (by kernel_rfl) (fun _ _ _ h => h) (Or.inr ⟨by rfl, rfl⟩) (by assumption) ?lastxre5
          (try simp only [Act.put, List.setIfInBounds_toArray, List.set_cons_zero, List.set_cons_succ])
          refine wpAnyH_take (i := 5) (oi := ({ dst := some 187, op := Op.indexAddr 59 (Operand.tmp 186) (Operand.const (Value.int IntKind.i64 0)), type := 0, pos := "ref.go:150", after := #[{ on := 4, ground := Ground.data }, { on := 3, ground := Ground.guard }], guard := some (3, false) } : Oper)) (v := undef) rfl (by kernel_rfl) (by kernel_rfl) (by kernel_rfl) (fun _ _ _ h => h) (Or.inr ⟨by rfl, rfl⟩) (by assumption) ?lastxre6
          (try simp only [Act.put, List.setIfInBounds_toArray, List.set_cons_zero, List.set_cons_succ])
          refine wpAnyH_take (i := 6) (oi := ({ dst := some 188, op := Op.load 57 (Operand.tmp 187), type := 57, pos := "ref.go:150", after := #[{ on := 5, ground := Ground.data }, { on := 3, ground := Ground.guard }], guard := some (3, false) } : Oper)) (v := undef) rfl (by kernel_rfl) (by kernel_rfl) (by kernel_rfl) (fun _ _ _ h => h) (Or.inr ⟨by rfl, rfl⟩) (by assumption) ?lastxre7
          (try simp only [Act.put, List.setIfInBounds_toArray, List.set_cons_zero, List.set_cons_succ])
          refine wpAnyH_take (i := 7) (oi := ({ dst := some 189, op := Op.fieldAddr 57 (Operand.tmp 6) 1, type := 0, pos := "ref.go:150", after := #[{ on := 3, ground := Ground.guard }], guard := some (3, false) } : Oper)) (v := undef) rfl (by kernel_rfl) (by kernel_rfl) (by kernel_rfl) (fun _ _ _ h => h) (Or.inr ⟨by rfl, rfl⟩) (by assumption) ?lastxre8
          (try simp only [Act.put, List.setIfInBounds_toArray, List.set_cons_zero, List.set_cons_succ])
          refine wpAnyH_take (i := 8) (oi := ({ dst := some 190, op := Op.load 3 (Operand.tmp 189), type := 3, pos := "ref.go:150", after := #[{ on := 7, ground := Ground.data }, { on := 3, ground := Ground.guard }], guard := some (3, false) } : Oper)) (v := undef) rfl (by kernel_rfl) (by kernel_rfl) (by kernel_rfl) (fun _ _ _ h => h) (Or.inr ⟨by rfl, rfl⟩) (by assumption) ?lastxre9
          (try simp only [Act.put, List.setIfInBounds_toArray, List.set_cons_zero, List.set_cons_succ])
          refine wpAnyH_take (i := 9) (oi := ({ dst := some 191, op := Op.build 57 #[(0, Operand.const (Value.int IntKind.i64 1)), (1, Operand.tmp 190)], type := 57, pos := "ref.go:150", after := #[{ on := 8, ground := Ground.data }, { on := 3, ground := Ground.guard }], guard := some (3, false) } : Oper)) (v := undef) rfl (by kernel_rfl) (by kernel_rfl) (by kernel_rfl) (fun _ _ _ h => h) (Or.inr ⟨by rfl, rfl⟩) (by assumption) ?lastxre10
          (try simp only [Act.put, List.setIfInBounds_toArray, List.set_cons_zero, List.set_cons_succ])
          refine wpAnyH_take (i := 10) (oi := ({ dst := some 192, op := Op.binOp BinOp.neq 57 (Operand.tmp 188) (Operand.tmp 191) 57, type := 4, pos := "ref.go:150", after := #[{ on := 6, ground := Ground.data }, { on := 9, ground := Ground.data }, { on := 3, ground := Ground.guard }], guard := some (3, false) } : Oper)) (v := undef) rfl (by kernel_rfl) (by kernel_rfl) (by kernel_rfl) (fun _ _ _ h => h) (Or.inr ⟨by rfl, rfl⟩) (by assumption) ?lastxre11
          (try simp only [Act.put, List.setIfInBounds_toArray, List.set_cons_zero, List.set_cons_succ])
          refine wpAnyH_take (i := 11) (oi := ({ dst := some 193, op := Op.pick (Operand.tmp 185) (Operand.const (Value.bool true)) (Operand.tmp 192), type := 4, pos := "ref.go:150", after := #[{ on := 3, ground := Ground.data }, { on := 10, ground := Ground.data }], guard := none } : Oper)) (v := ?lastxv12) rfl (by kernel_rfl) (by kernel_rfl) (by kernel_rfl) (fun _ _ _ h => h) (Or.inl ⟨by rfl, ?lastxhy12⟩) (by assumption) ?lastxre12
          case lastxhy12 => (intro w hSw; (try dsimp only at hSw); go_simp; try with_reducible rfl)
          (try simp only [Act.put, List.setIfInBounds_toArray, List.set_cons_zero, List.set_cons_succ])
          refine wpAnyH_done (by kernel_rfl) ?_ _
          clear hHeld
          go_wp2
          go_ret2
          exact DvQ.no HF.out (HBE.out.trans (by (repeat' (first | (with_reducible exact Below.refl _ _) | (with_reducible assumption) | (with_reducible refine Below.alloc ?_ ?_ _) | (with_reducible refine below_drewN ?_ _) | (with_reducible refine below_drew ?_) | (with_reducible refine below_ext ?_ ?_ _ _) | (with_reducible refine Below.setCell ?_ ?_ _) | (simp; done) | (simp; omega) | omega))))
        | true =>
          obtain ⟨st, hst1, hst2, hst3⟩ := alike_head hal.symm
          obtain ⟨s1, s2⟩ := st
          have h0n : 0 < (W i).length := by
            cases hW : W i with
            | nil => rw [hW] at hst1; cases hst1
            | cons x r => simp
          obtain ⟨gq, rfl, hgq1, hgq2⟩ := hq1 h0n
          have hl0 : (W i)[0] = (s1, s2) := hst3 _ (List.getElem_mem h0n)
          have hy : wr.cell? ⟨gq, 0, none⟩ = some (.int .i64 s1) ∧ wr.cell? ⟨gq, 1, none⟩ = some (.int .i64 s2) := by
            have y0 := OL.cell wE_cells (HOLi.out) 0 0 h0n (u := .int .i64 s1) (by rw [hl0]; rfl)
            have y1 := OL.cell wE_cells (HOLi.out) 0 1 h0n (u := .int .i64 s2) (by rw [hl0]; rfl)
            rw [Nat.zero_mul, Nat.zero_add] at y0 y1
            exact ⟨y0, y1⟩
          obtain ⟨y0, y1⟩ := hy
          have h0li : (0 : Int) < (ln : Int) := by omega
          have h0ln : 0 < ln := by omega
          have HE2 := Lib.hid (show O = if (s1, s2) = ((1, fin) : St) then some (max most 1) else none by
            rw [HE.out, hst1]
            by_cases e : (s1, s2) = ((1, fin) : St)
            · rw [if_pos e, if_pos ⟨rfl, by rw [e]⟩]
            · rw [if_neg e, if_neg (fun h => e (Option.some.inj h.2))])
          have hEQ := fun w' => way_eq (s1, s2) (1, fin) w'
          have HCS := Lib.hid (show ∀ w', Below wr.heap.size wr w' → (w'.cell? ⟨w.heap.size, 1, none⟩ = some (.int .i64 fin) ∧ w'.cell? ⟨gq, 0, none⟩ = some (.int .i64 s1) ∧ w'.cell? ⟨gq, 1, none⟩ = some (.int .i64 s2)) from fun w' hb => ⟨(hb.cell (p := ⟨w.heap.size, 1, none⟩) hws1).trans hc1, (hb.cell (p := ⟨gq, 0, none⟩) hgq2).trans y0, (hb.cell (p := ⟨gq, 1, none⟩) hgq2).trans y1⟩)
          clear hl0 hst1 hst2 hst3 HOLi hq1 hfi hln hal h0n HE
          by_cases he : (s1, s2) = ((1, fin) : St)
          · rw [decide_eq_true he] at hEQ
            have HF := Lib.hid (show O = some (max most 1) by rw [HE2.out, if_pos he])
            clear HE2 he
            go_wp2_with fail
            refine wp_region_held_drew (S := fun w' => w'.cell? ⟨w.heap.size, 1, none⟩ = some (.int .i64 fin) ∧ w'.cell? ⟨gq, 0, none⟩ = some (.int .i64 s1) ∧ w'.cell? ⟨gq, 1, none⟩ = some (.int .i64 s2)) (by kernel_rfl) ?finYESxhSa (fun hHeld => ?finYESxresta)
            case finYESxhSa => ((try dsimp only); exact HCS.out _ (by (repeat' (first | (with_reducible exact Below.refl _ _) | (with_reducible assumption) | (with_reducible refine Below.alloc ?_ ?_ _) | (with_reducible refine below_drewN ?_ _) | (with_reducible refine below_drew ?_) | (with_reducible refine below_ext ?_ ?_ _ _) | (with_reducible refine Below.setCell ?_ ?_ _) | (simp; done) | (simp; omega) | omega))))
            refine wpAnyH_take (i := 0) (oi := ({ dst := some 182, op := Op.move (Operand.tmp 16), type := 59, pos := "ref.go:150", after := #[], guard := none } : Oper)) (v := ?finYESxv1) rfl (by kernel_rfl) (by kernel_rfl) (by kernel_rfl) (fun _ _ _ h => h) (Or.inl ⟨by rfl, ?finYESxhy1⟩) (by assumption) ?finYESxre1
            case finYESxhy1 => (intro w hSw; (try dsimp only at hSw); go_simp; try with_reducible rfl)
            (try simp only [Act.put, List.setIfInBounds_toArray, List.set_cons_zero, List.set_cons_succ])
            refine wpAnyH_ready (rs := [1]) (by kernel_rfl) (by simp) ?_
            refine AllReadyH.cons (o := ({ dst := some 183, op := Op.call { callee := Callee.value (Operand.func 25), args := #[Operand.tmp 182], argTypes := #[59] }, type := 4, pos := "ref.go:150", after := #[{ on := 0, ground := Ground.data }], guard := none } : Oper)) rfl (fun K hK => ?_) AllReadyH.nil
            go_simp
            (go_at_call 25; (with_reducible refine (HALK.out _ (by (repeat' (first | (with_reducible exact Below.refl _ _) | (with_reducible assumption) | (with_reducible refine Below.alloc ?_ ?_ _) | (with_reducible refine below_drewN ?_ _) | (with_reducible refine below_drew ?_) | (with_reducible refine below_ext ?_ ?_ _ _) | (with_reducible refine Below.setCell ?_ ?_ _) | (simp; done) | (simp; omega) | omega)))).mono ?_); rintro e w2 ⟨rfl, d2, rfl⟩)
            refine hK.out _ _ ?finYESxhS2 (fun hHeldN => ?finYESxrst2)
            case finYESxhS2 => ((try dsimp only); exact HCS.out _ (by (repeat' (first | (with_reducible exact Below.refl _ _) | (with_reducible assumption) | (with_reducible refine Below.alloc ?_ ?_ _) | (with_reducible refine below_drewN ?_ _) | (with_reducible refine below_drew ?_) | (with_reducible refine below_ext ?_ ?_ _ _) | (with_reducible refine Below.setCell ?_ ?_ _) | (simp; done) | (simp; omega) | omega))))
            clear hHeld hK K
            have hHeld := hHeldN
            clear hHeldN
            refine wpAnyH_take (i := 2) (oi := ({ dst := some 184, op := Op.unOp UnOp.not 4 (Operand.tmp 183), type := 4, pos := "ref.go:150", after := #[{ on := 1, ground := Ground.data }], guard := none } : Oper)) (v := ?finYESxv3) rfl (by kernel_rfl) (by kernel_rfl) (by kernel_rfl) (fun _ _ _ h => h) (Or.inl ⟨by rfl, ?finYESxhy3⟩) (by assumption) ?finYESxre3
            case finYESxhy3 => (intro w hSw; (try dsimp only at hSw); go_simp; try with_reducible rfl)
            (try simp only [Act.put, List.setIfInBounds_toArray, List.set_cons_zero, List.set_cons_succ])
            refine wpAnyH_take (i := 3) (oi := ({ dst := some 185, op := Op.move (Operand.tmp 184), type := 4, pos := "ref.go:150", after := #[{ on := 2, ground := Ground.data }, { on := 1, ground := Ground.chain }], guard := none } : Oper)) (v := ?finYESxv4) rfl (by kernel_rfl) (by kernel_rfl) (by kernel_rfl) (fun _ _ _ h => h) (Or.inl ⟨by rfl, ?finYESxhy4⟩) (by assumption) ?finYESxre4
            case finYESxhy4 => (intro w hSw; (try dsimp only at hSw); go_simp; try with_reducible rfl)
            (try simp only [Act.put, List.setIfInBounds_toArray, List.set_cons_zero, List.set_cons_succ])
            refine wpAnyH_take (i := 4) (oi := ({ dst := some 186, op := Op.move (Operand.tmp 16), type := 59, pos := "ref.go:150", after := #[{ on := 3, ground := Ground.guard }], guard := some (3, false) } : Oper)) (v := ?finYESxv5) rfl (by kernel_rfl) (by kernel_rfl) (by kernel_rfl) (fun _ _ _ h => h) (Or.inl ⟨by rfl, ?finYESxhy5⟩) (by assumption) ?finYESxre5
            case finYESxhy5 => (intro w hSw; (try dsimp only at hSw); go_simp; try with_reducible rfl)
            (try simp only [Act.put, List.setIfInBounds_toArray, List.set_cons_zero, List.set_cons_succ])
            refine wpAnyH_take (i := 5) (oi := ({ dst := some 187, op := Op.indexAddr 59 (Operand.tmp 186) (Operand.const (Value.int IntKind.i64 0)), type := 0, pos := "ref.go:150", after := #[{ on := 4, ground := Ground.data }, { on := 3, ground := Ground.guard }], guard := some (3, false) } : Oper)) (v := ?finYESxv6) rfl (by kernel_rfl) (by kernel_rfl) (by kernel_rfl) (fun _ _ _ h => h) (Or.inl ⟨by rfl, ?finYESxhy6⟩) (by assumption) ?finYESxre6
            case finYESxhy6 => (intro w hSw; (try dsimp only at hSw); go_simp; try with_reducible rfl)
            (try simp only [Act.put, List.setIfInBounds_toArray, List.set_cons_zero, List.set_cons_succ])
            refine wpAnyH_take (i := 6) (oi := ({ dst := some 188, op := Op.load 57 (Operand.tmp 187), type := 57, pos := "ref.go:150", after := #[{ on := 5, ground := Ground.data }, { on := 3, ground := Ground.guard }], guard := some (3, false) } : Oper)) (v := ?finYESxv7) rfl (by kernel_rfl) (by kernel_rfl) (by kernel_rfl) (fun _ _ _ h => h) (Or.inl ⟨by rfl, ?finYESxhy7⟩) (by assumption) ?finYESxre7
            case finYESxhy7 => (intro w hSw; (try dsimp only at hSw); go_simp; try with_reducible rfl)
            (try simp only [Act.put, List.setIfInBounds_toArray, List.set_cons_zero, List.set_cons_succ])
            refine wpAnyH_take (i := 7) (oi := ({ dst := some 189, op := Op.fieldAddr 57 (Operand.tmp 6) 1, type := 0, pos := "ref.go:150", after := #[{ on := 3, ground := Ground.guard }], guard := some (3, false) } : Oper)) (v := ?finYESxv8) rfl (by kernel_rfl) (by kernel_rfl) (by kernel_rfl) (fun _ _ _ h => h) (Or.inl ⟨by rfl, ?finYESxhy8⟩) (by assumption) ?finYESxre8
            case finYESxhy8 => (intro w hSw; (try dsimp only at hSw); go_simp; try with_reducible rfl)
            (try simp only [Act.put, List.setIfInBounds_toArray, List.set_cons_zero, List.set_cons_succ])
            refine wpAnyH_take (i := 8) (oi := ({ dst := some 190, op := Op.load 3 (Operand.tmp 189), type := 3, pos := "ref.go:150", after := #[{ on := 7, ground := Ground.data }, { on := 3, ground := Ground.guard }], guard := some (3, false) } : Oper)) (v := ?finYESxv9) rfl (by kernel_rfl) (by kernel_rfl) (by kernel_rfl) (fun _ _ _ h => h) (Or.inl ⟨by rfl, ?finYESxhy9⟩) (by assumption) ?finYESxre9
            case finYESxhy9 => (intro w hSw; (try dsimp only at hSw); go_simp; try with_reducible rfl)
            (try simp only [Act.put, List.setIfInBounds_toArray, List.set_cons_zero, List.set_cons_succ])
            refine wpAnyH_take (i := 9) (oi := ({ dst := some 191, op := Op.build 57 #[(0, Operand.const (Value.int IntKind.i64 1)), (1, Operand.tmp 190)], type := 57, pos := "ref.go:150", after := #[{ on := 8, ground := Ground.data }, { on := 3, ground := Ground.guard }], guard := some (3, false) } : Oper)) (v := ?finYESxv10) rfl (by kernel_rfl) (by kernel_rfl) (by kernel_rfl) (fun _ _ _ h => h) (Or.inl ⟨by rfl, ?finYESxhy10⟩) (by assumption) ?finYESxre10
            case finYESxhy10 => (intro w hSw; (try dsimp only at hSw); go_simp; try with_reducible rfl)
            (try simp only [Act.put, List.setIfInBounds_toArray, List.set_cons_zero, List.set_cons_succ])
            refine wpAnyH_take (i := 10) (oi := ({ dst := some 192, op := Op.binOp BinOp.neq 57 (Operand.tmp 188) (Operand.tmp 191) 57, type := 4, pos := "ref.go:150", after := #[{ on := 6, ground := Ground.data }, { on := 9, ground := Ground.data }, { on := 3, ground := Ground.guard }], guard := some (3, false) } : Oper)) (v := ?finYESxv11) rfl (by kernel_rfl) (by kernel_rfl) (by kernel_rfl) (fun _ _ _ h => h) (Or.inl ⟨by rfl, ?finYESxhy11⟩) (by assumption) ?finYESxre11
            case finYESxhy11 => (intro w hSw; (try dsimp only at hSw); go_simp; try with_reducible rfl)
            (try simp only [Act.put, List.setIfInBounds_toArray, List.set_cons_zero, List.set_cons_succ])
            refine wpAnyH_take (i := 11) (oi := ({ dst := some 193, op := Op.pick (Operand.tmp 185) (Operand.const (Value.bool true)) (Operand.tmp 192), type := 4, pos := "ref.go:150", after := #[{ on := 3, ground := Ground.data }, { on := 10, ground := Ground.data }], guard := none } : Oper)) (v := ?finYESxv12) rfl (by kernel_rfl) (by kernel_rfl) (by kernel_rfl) (fun _ _ _ h => h) (Or.inl ⟨by rfl, ?finYESxhy12⟩) (by assumption) ?finYESxre12
            case finYESxhy12 => (intro w hSw; (try dsimp only at hSw); go_simp; try with_reducible rfl)
            (try simp only [Act.put, List.setIfInBounds_toArray, List.set_cons_zero, List.set_cons_succ])
            refine wpAnyH_done (by kernel_rfl) ?_ _
            clear hHeld
            go_wp2
            all_goals
              go_ret2
              exact DvQ.yes (by rw [HF.out]; congr 1; omega) (HBE.out.trans (by (repeat' (first | (with_reducible exact Below.refl _ _) | (with_reducible assumption) | (with_reducible refine Below.alloc ?_ ?_ _) | (with_reducible refine below_drewN ?_ _) | (with_reducible refine below_drew ?_) | (with_reducible refine below_ext ?_ ?_ _ _) | (with_reducible refine Below.setCell ?_ ?_ _) | (simp; done) | (simp; omega) | omega))))
          · rw [decide_eq_false he] at hEQ
            have HF := Lib.hid (show O = none by rw [HE2.out, if_neg he])
            clear HE2 he
            go_wp2_with fail
            refine wp_region_held_drew (S := fun w' => w'.cell? ⟨w.heap.size, 1, none⟩ = some (.int .i64 fin) ∧ w'.cell? ⟨gq, 0, none⟩ = some (.int .i64 s1) ∧ w'.cell? ⟨gq, 1, none⟩ = some (.int .i64 s2)) (by kernel_rfl) ?finNOxhSa (fun hHeld => ?finNOxresta)
            case finNOxhSa => ((try dsimp only); exact HCS.out _ (by (repeat' (first | (with_reducible exact Below.refl _ _) | (with_reducible assumption) | (with_reducible refine Below.alloc ?_ ?_ _) | (with_reducible refine below_drewN ?_ _) | (with_reducible refine below_drew ?_) | (with_reducible refine below_ext ?_ ?_ _ _) | (with_reducible refine Below.setCell ?_ ?_ _) | (simp; done) | (simp; omega) | omega))))
            refine wpAnyH_take (i := 0) (oi := ({ dst := some 182, op := Op.move (Operand.tmp 16), type := 59, pos := "ref.go:150", after := #[], guard := none } : Oper)) (v := ?finNOxv1) rfl (by kernel_rfl) (by kernel_rfl) (by kernel_rfl) (fun _ _ _ h => h) (Or.inl ⟨by rfl, ?finNOxhy1⟩) (by assumption) ?finNOxre1
            case finNOxhy1 => (intro w hSw; (try dsimp only at hSw); go_simp; try with_reducible rfl)
            (try simp only [Act.put, List.setIfInBounds_toArray, List.set_cons_zero, List.set_cons_succ])
            refine wpAnyH_ready (rs := [1]) (by kernel_rfl) (by simp) ?_
            refine AllReadyH.cons (o := ({ dst := some 183, op := Op.call { callee := Callee.value (Operand.func 25), args := #[Operand.tmp 182], argTypes := #[59] }, type := 4, pos := "ref.go:150", after := #[{ on := 0, ground := Ground.data }], guard := none } : Oper)) rfl (fun K hK => ?_) AllReadyH.nil
            go_simp
            (go_at_call 25; (with_reducible refine (HALK.out _ (by (repeat' (first | (with_reducible exact Below.refl _ _) | (with_reducible assumption) | (with_reducible refine Below.alloc ?_ ?_ _) | (with_reducible refine below_drewN ?_ _) | (with_reducible refine below_drew ?_) | (with_reducible refine below_ext ?_ ?_ _ _) | (with_reducible refine Below.setCell ?_ ?_ _) | (simp; done) | (simp; omega) | omega)))).mono ?_); rintro e w2 ⟨rfl, d2, rfl⟩)
            refine hK.out _ _ ?finNOxhS2 (fun hHeldN => ?finNOxrst2)
            case finNOxhS2 => ((try dsimp only); exact HCS.out _ (by (repeat' (first | (with_reducible exact Below.refl _ _) | (with_reducible assumption) | (with_reducible refine Below.alloc ?_ ?_ _) | (with_reducible refine below_drewN ?_ _) | (with_reducible refine below_drew ?_) | (with_reducible refine below_ext ?_ ?_ _ _) | (with_reducible refine Below.setCell ?_ ?_ _) | (simp; done) | (simp; omega) | omega))))
            clear hHeld hK K
            have hHeld := hHeldN
            clear hHeldN
            refine wpAnyH_take (i := 2) (oi := ({ dst := some 184, op := Op.unOp UnOp.not 4 (Operand.tmp 183), type := 4, pos := "ref.go:150", after := #[{ on := 1, ground := Ground.data }], guard := none } : Oper)) (v := ?finNOxv3) rfl (by kernel_rfl) (by kernel_rfl) (by kernel_rfl) (fun _ _ _ h => h) (Or.inl ⟨by rfl, ?finNOxhy3⟩) (by assumption) ?finNOxre3
            case finNOxhy3 => (intro w hSw; (try dsimp only at hSw); go_simp; try with_reducible rfl)
            (try simp only [Act.put, List.setIfInBounds_toArray, List.set_cons_zero, List.set_cons_succ])
            refine wpAnyH_take (i := 3) (oi := ({ dst := some 185, op := Op.move (Operand.tmp 184), type := 4, pos := "ref.go:150", after := #[{ on := 2, ground := Ground.data }, { on := 1, ground := Ground.chain }], guard := none } : Oper)) (v := ?finNOxv4) rfl (by kernel_rfl) (by kernel_rfl) (by kernel_rfl) (fun _ _ _ h => h) (Or.inl ⟨by rfl, ?finNOxhy4⟩) (by assumption) ?finNOxre4
            case finNOxhy4 => (intro w hSw; (try dsimp only at hSw); go_simp; try with_reducible rfl)
            (try simp only [Act.put, List.setIfInBounds_toArray, List.set_cons_zero, List.set_cons_succ])
            refine wpAnyH_take (i := 4) (oi := ({ dst := some 186, op := Op.move (Operand.tmp 16), type := 59, pos := "ref.go:150", after := #[{ on := 3, ground := Ground.guard }], guard := some (3, false) } : Oper)) (v := ?finNOxv5) rfl (by kernel_rfl) (by kernel_rfl) (by kernel_rfl) (fun _ _ _ h => h) (Or.inl ⟨by rfl, ?finNOxhy5⟩) (by assumption) ?finNOxre5
            case finNOxhy5 => (intro w hSw; (try dsimp only at hSw); go_simp; try with_reducible rfl)
            (try simp only [Act.put, List.setIfInBounds_toArray, List.set_cons_zero, List.set_cons_succ])
            refine wpAnyH_take (i := 5) (oi := ({ dst := some 187, op := Op.indexAddr 59 (Operand.tmp 186) (Operand.const (Value.int IntKind.i64 0)), type := 0, pos := "ref.go:150", after := #[{ on := 4, ground := Ground.data }, { on := 3, ground := Ground.guard }], guard := some (3, false) } : Oper)) (v := ?finNOxv6) rfl (by kernel_rfl) (by kernel_rfl) (by kernel_rfl) (fun _ _ _ h => h) (Or.inl ⟨by rfl, ?finNOxhy6⟩) (by assumption) ?finNOxre6
            case finNOxhy6 => (intro w hSw; (try dsimp only at hSw); go_simp; try with_reducible rfl)
            (try simp only [Act.put, List.setIfInBounds_toArray, List.set_cons_zero, List.set_cons_succ])
            refine wpAnyH_take (i := 6) (oi := ({ dst := some 188, op := Op.load 57 (Operand.tmp 187), type := 57, pos := "ref.go:150", after := #[{ on := 5, ground := Ground.data }, { on := 3, ground := Ground.guard }], guard := some (3, false) } : Oper)) (v := ?finNOxv7) rfl (by kernel_rfl) (by kernel_rfl) (by kernel_rfl) (fun _ _ _ h => h) (Or.inl ⟨by rfl, ?finNOxhy7⟩) (by assumption) ?finNOxre7
            case finNOxhy7 => (intro w hSw; (try dsimp only at hSw); go_simp; try with_reducible rfl)
            (try simp only [Act.put, List.setIfInBounds_toArray, List.set_cons_zero, List.set_cons_succ])
            refine wpAnyH_take (i := 7) (oi := ({ dst := some 189, op := Op.fieldAddr 57 (Operand.tmp 6) 1, type := 0, pos := "ref.go:150", after := #[{ on := 3, ground := Ground.guard }], guard := some (3, false) } : Oper)) (v := ?finNOxv8) rfl (by kernel_rfl) (by kernel_rfl) (by kernel_rfl) (fun _ _ _ h => h) (Or.inl ⟨by rfl, ?finNOxhy8⟩) (by assumption) ?finNOxre8
            case finNOxhy8 => (intro w hSw; (try dsimp only at hSw); go_simp; try with_reducible rfl)
            (try simp only [Act.put, List.setIfInBounds_toArray, List.set_cons_zero, List.set_cons_succ])
            refine wpAnyH_take (i := 8) (oi := ({ dst := some 190, op := Op.load 3 (Operand.tmp 189), type := 3, pos := "ref.go:150", after := #[{ on := 7, ground := Ground.data }, { on := 3, ground := Ground.guard }], guard := some (3, false) } : Oper)) (v := ?finNOxv9) rfl (by kernel_rfl) (by kernel_rfl) (by kernel_rfl) (fun _ _ _ h => h) (Or.inl ⟨by rfl, ?finNOxhy9⟩) (by assumption) ?finNOxre9
            case finNOxhy9 => (intro w hSw; (try dsimp only at hSw); go_simp; try with_reducible rfl)
            (try simp only [Act.put, List.setIfInBounds_toArray, List.set_cons_zero, List.set_cons_succ])
            refine wpAnyH_take (i := 9) (oi := ({ dst := some 191, op := Op.build 57 #[(0, Operand.const (Value.int IntKind.i64 1)), (1, Operand.tmp 190)], type := 57, pos := "ref.go:150", after := #[{ on := 8, ground := Ground.data }, { on := 3, ground := Ground.guard }], guard := some (3, false) } : Oper)) (v := ?finNOxv10) rfl (by kernel_rfl) (by kernel_rfl) (by kernel_rfl) (fun _ _ _ h => h) (Or.inl ⟨by rfl, ?finNOxhy10⟩) (by assumption) ?finNOxre10
            case finNOxhy10 => (intro w hSw; (try dsimp only at hSw); go_simp; try with_reducible rfl)
            (try simp only [Act.put, List.setIfInBounds_toArray, List.set_cons_zero, List.set_cons_succ])
            refine wpAnyH_take (i := 10) (oi := ({ dst := some 192, op := Op.binOp BinOp.neq 57 (Operand.tmp 188) (Operand.tmp 191) 57, type := 4, pos := "ref.go:150", after := #[{ on := 6, ground := Ground.data }, { on := 9, ground := Ground.data }, { on := 3, ground := Ground.guard }], guard := some (3, false) } : Oper)) (v := ?finNOxv11) rfl (by kernel_rfl) (by kernel_rfl) (by kernel_rfl) (fun _ _ _ h => h) (Or.inl ⟨by rfl, ?finNOxhy11⟩) (by assumption) ?finNOxre11
            case finNOxhy11 => (intro w hSw; (try dsimp only at hSw); go_simp; try with_reducible rfl)
            (try simp only [Act.put, List.setIfInBounds_toArray, List.set_cons_zero, List.set_cons_succ])
            refine wpAnyH_take (i := 11) (oi := ({ dst := some 193, op := Op.pick (Operand.tmp 185) (Operand.const (Value.bool true)) (Operand.tmp 192), type := 4, pos := "ref.go:150", after := #[{ on := 3, ground := Ground.data }, { on := 10, ground := Ground.data }], guard := none } : Oper)) (v := ?finNOxv12) rfl (by kernel_rfl) (by kernel_rfl) (by kernel_rfl) (fun _ _ _ h => h) (Or.inl ⟨by rfl, ?finNOxhy12⟩) (by assumption) ?finNOxre12
            case finNOxhy12 => (intro w hSw; (try dsimp only at hSw); go_simp; try with_reducible rfl)
            (try simp only [Act.put, List.setIfInBounds_toArray, List.set_cons_zero, List.set_cons_succ])
            refine wpAnyH_done (by kernel_rfl) ?_ _
            clear hHeld
            go_wp2
            go_ret2
            exact DvQ.no HF.out (HBE.out.trans (by (repeat' (first | (with_reducible exact Below.refl _ _) | (with_reducible assumption) | (with_reducible refine Below.alloc ?_ ?_ _) | (with_reducible refine below_drewN ?_ _) | (with_reducible refine below_drew ?_) | (with_reducible refine below_ext ?_ ?_ _ _) | (with_reducible refine Below.setCell ?_ ?_ _) | (simp; done) | (simp; omega) | omega))))
end Go.Proofs.YtkfkdlneafeglaaDoor
