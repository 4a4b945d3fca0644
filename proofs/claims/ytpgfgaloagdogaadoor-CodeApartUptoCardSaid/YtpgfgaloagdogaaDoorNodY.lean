/-
  The document's Check.
-/
import Derived.Test.YtpgfgaloagdogaaDoorNodX
import Derived.Deep.OwnRows
import Derived.Deep.QuietTactic
import Derived.BigQuiet
import Derived.StillTailTactics
namespace Go.Proofs.YtpgfgaloagdogaaDoor
open Go.RowKit Num Word Txt
attribute [local go_sem] setCell_drewN cell?_ext frozen?_ext shape?_ext setCell_ext lt_1' ne_1' en_1' le_1' lt_2' ne_2' en_2' le_2' lt_3' ne_3' en_3' le_3' lt_4' ne_4' en_4' le_4' lt_5' ne_5' en_5' le_5' lt_6' ne_6' en_6' le_6' lt_7' ne_7' en_7' le_7' lt_8' ne_8' en_8' le_8' lt_9' ne_9' en_9' le_9' lt_10' ne_10' en_10' le_10' lt_11' ne_11' en_11' le_11' lt_12' ne_12' en_12' le_12'

/-- a row of ints of the call's own -/
structure DRow (w : World) (g n : Nat) (f : Nat → Nat) : Prop where
  lt : g < w.heap.size
  cell : ∀ j, j < n → w.cell? ⟨g, j, none⟩ = some (.int .i64 (f j : Int))
  free : ∀ j, w.frozen? ⟨g, j, none⟩ = false
def updI (f : Nat → Nat) (k v : Nat) : Nat → Nat := fun j => if j = k then v else f j
theorem DRow.store {w : World} {g n : Nat} {f : Nat → Nat} (h : DRow w g n f) (k v : Nat) (hk : k < n) : DRow (w.setCell ⟨g, k, none⟩ (.int .i64 (v : Int))) g n (updI f k v) := by
  refine ⟨by rw [World.size_setCell]; exact h.lt, fun j hj => ?_, fun j => by rw [World.frozen?_setCell]; exact h.free j⟩
  by_cases e : j = k
  · subst e
    rw [World.cell?_setCell_same w _ _ (h.cell j hj)]
    simp [updI]
  · rw [World.cell?_setCell_other w _ _ _ (by intro e2; injection e2 with _ e3 _; exact e e3.symm), h.cell j hj]
    simp [updI, e]
theorem DRow.congr {w : World} {g n : Nat} {f f' : Nat → Nat} (h : DRow w g n f) (he : ∀ j, j < n → f j = f' j) : DRow w g n f' :=
  ⟨h.lt, fun j hj => by rw [h.cell j hj, he j hj], h.free⟩
theorem DRow.new {w w' : World} {g n : Nat} {f : Nat → Nat} (h : DRow w g n f) (hb : Below w.heap.size w w') : DRow w' g n f :=
  ⟨Nat.lt_of_lt_of_le h.lt hb.size, fun j hj => by rw [hb.cell (p := ⟨g, _, none⟩) h.lt]; exact h.cell j hj, fun j => by rw [hb.frozen (p := ⟨g, _, none⟩) h.lt]; exact h.free j⟩
theorem DRow.made (w : World) (n : Nat) : DRow (w.alloc (.cells (madeCells #[.int .i64 0] n) 3)) w.heap.size n (fun _ => 0) := by
  have h1 : (w.alloc (.cells (madeCells #[.int .i64 0] n) 3)).heap[w.heap.size]? = some (.cells (madeCells #[.int .i64 0] n) 3) := by
    show (w.heap.push _)[w.heap.size]? = _
    simp
  refine ⟨by rw [World.size_alloc]; omega, fun j hj => ?_, fun j => ?_⟩
  · rw [World.cell?_alloc_at _ _ _ _ rfl]
    simp [madeCells, hj, Nat.mod_one]
  · unfold World.frozen?
    simp only
    rw [h1]
    simp
theorem dmake_int (n : Nat) (hn : n ≤ 1000000) : ∀ w, (Instr.makeSlice 52 (.int .i64 (n : Int)) (.int .i64 (n : Int))).run Tryd.prog w = .ok (.slice (some ⟨w.heap.size, 0, none⟩) n n) (w.alloc (.cells (madeCells #[.int .i64 0] n) 3)) :=
  fun w => run_make_row' 52 3 (.int .i64 0) 8 Tryd.underlying52 infoInt rfl .i64 .i64 n (by omega) (by omega) w
theorem stk_in : ∀ (r : List NdD) (i : Nat) (H : List Nat) {q : List Nat × List (List Nat)}, stkP i r H = some q → (∀ a ∈ H, a < i) → q.2.length = r.length ∧ ∀ j, j < q.2.length → ∀ a ∈ q.2.getD j [], a < i + j
  | [], i, H, q, h, _ => by
    have h2 : some (H, ([] : List (List Nat))) = some q := h
    injection h2 with h2
    subst h2
    exact ⟨rfl, fun j hj => absurd hj (Nat.not_lt_zero j)⟩
  | x :: r, i, H, q, h, hH => by
    unfold stkP at h
    by_cases ht : takesN x.op x.k = true ∧ x.k ≤ H.length
    · rw [if_pos ht] at h
      cases hs : stkP (i + 1) r (H.take (H.length - x.k.toNat) ++ [i]) with
      | none => rw [hs] at h; cases h
      | some p =>
        rw [hs] at h
        have h2 : some (p.1, H.drop (H.length - x.k.toNat) :: p.2) = some q := h
        injection h2 with h2
        subst h2
        obtain ⟨h3, h4⟩ := stk_in r (i + 1) _ hs (fun a ha => by
          rcases List.mem_append.1 ha with ha | ha
          · have := hH a (List.mem_of_mem_take ha); omega
          · simp at ha; omega)
        refine ⟨by simp [h3], fun j hj a ha => ?_⟩
        cases j with
        | zero => have := hH a (List.mem_of_mem_drop (by simpa using ha)); omega
        | succ j => have := h4 j (by simpa using hj) a (by simpa using ha); omega
    · rw [if_neg ht] at h; cases h
theorem depD_le {D : List Nat} {m : Nat} (hD : ∀ a, D.getD a 0 ≤ m) : ∀ (q : List Nat) (d : Nat), d ≤ m → depD D d q ≤ m
  | [], _, h => h
  | a :: q, _, h => depD_le hD q _ (Nat.max_le.2 ⟨h, hD a⟩)
theorem StS.get {w w1 : World} {x y : Value} {H : List Nat} {P : List (List Nat)} (h : StS w w1 x y H P) (h0 : 0 < P.length) : ∃ gx cx, x = .slice (some ⟨gx, 0, none⟩) P.length cx ∧ P.length ≤ cx ∧ gx < w1.heap.size ∧
    ∀ i, i < P.length → ∃ q c, w1.cell? ⟨gx, i, none⟩ = some (.slice q (P.getD i []).length c) ∧ Rd w1 (.slice q (P.getD i []).length c) (P.getD i []) := by
  obtain ⟨vals, hol, hvl, hin⟩ := h.parts
  obtain ⟨q, cx, e, hq, hcx⟩ := OL.form hol
  obtain ⟨gx, rfl, -, hgx⟩ := hq (by omega)
  subst e
  refine ⟨gx, cx, by rw [hvl], by omega, hgx, fun i hi => ?_⟩
  have hiv : i < vals.length := by omega
  have e1 := OL.cell slE_cells hol i 0 hiv (u := slV vals[i]) rfl
  rw [show i * slK.size + 0 = i by show i * 1 + 0 = i; omega] at e1
  have e2 := hin i hiv hi
  obtain ⟨q2, c2, e3, -⟩ := e2.form
  have e4 : P.getD i [] = P[i] := by rw [List.getD_eq_getElem?_getD, List.getElem?_eq_getElem hi]; rfl
  rw [e3] at e1 e2
  rw [e4]
  exact ⟨q2, c2, e1, e2.weak fun _ _ _ => trivial⟩
end Go.Proofs.YtpgfgaloagdogaaDoor
