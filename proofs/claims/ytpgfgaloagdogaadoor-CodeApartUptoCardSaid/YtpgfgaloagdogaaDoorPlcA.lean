/-
  The document's Places: the parts of each node, of nodes in form.
-/
import Derived.Test.YtpgfgaloagdogaaDoorNodY
namespace Go.Proofs.YtpgfgaloagdogaaDoor
open Go.RowKit Num Word Txt
attribute [local go_sem] setCell_drewN cell?_ext frozen?_ext shape?_ext setCell_ext lt_1' ne_1' en_1' le_1' lt_2' ne_2' en_2' le_2' lt_3' ne_3' en_3' le_3' lt_4' ne_4' en_4' le_4' lt_5' ne_5' en_5' le_5' lt_6' ne_6' en_6' le_6' lt_7' ne_7' en_7' le_7' lt_8' ne_8' en_8' le_8' lt_9' ne_9' en_9' le_9' lt_10' ne_10' en_10' le_10' lt_11' ne_11' en_11' le_11' lt_12' ne_12' en_12' le_12'

/-- lists of places in memory: a row of slices -/
def WPl (w : World) (v : Value) (P : List (List Nat)) : Prop := ∃ gx cx, v = .slice (some ⟨gx, 0, none⟩) P.length cx ∧ P.length ≤ cx ∧ gx < w.heap.size ∧
  ∀ i, i < P.length → ∃ q c, w.cell? ⟨gx, i, none⟩ = some (.slice q (P.getD i []).length c) ∧ Rd w (.slice q (P.getD i []).length c) (P.getD i [])
theorem WPl.new {w w' : World} {v : Value} {P : List (List Nat)} (h : WPl w v P) (hb : Below w.heap.size w w') : WPl w' v P := by
  obtain ⟨gx, cx, e, h1, h2, h3⟩ := h
  exact ⟨gx, cx, e, h1, Nat.lt_of_lt_of_le h2 hb.size, fun i hi => by
    obtain ⟨q, c, h4, h5⟩ := h3 i hi
    exact ⟨q, c, by rw [hb.cell (p := ⟨gx, _, none⟩) h2]; exact h4, (h5.later hb).weak fun _ _ _ => trivial⟩⟩
set_option maxRecDepth 100000 in
set_option maxHeartbeats 4000000 in
theorem rplaces_any (l : List NdD) (n : Nat) (w : World) (v : Value) (hv : RL 8 ndE n w v l) (hn : n ≤ w.heap.size) (hl : l.length ≤ 1000) (h0 : 0 < l.length) {H : List Nat} {ps : List (List Nat)} (hs : stkP 0 l [] = some (H, ps)) :
    Calls Tryd.prog 31 #[v] w fun e w' => (∃ x, e = .returned x ∧ WPl w' x ps) ∧ Below w.heap.size w w' := by
  have HS := Lib.hid (stack_any l l.length n (Nat.le_refl _) w v hv hn (by omega))
  rw [List.take_length, hs] at HS
  have hpl := (stk_in l 0 [] hs (by simp)).1
  simp only at hpl
  have HG := Lib.hid (show ∀ w1 x y, StS w w1 x y H ps → WPl w1 x ps from fun w1 x y h => h.get (by omega))
  obtain ⟨p, c, rfl, h2⟩ := hv
  obtain ⟨len, hlen⟩ : ∃ len, len = l.length := ⟨_, rfl⟩
  rw [← hlen] at HS hl ⊢
  clear h2 hlen hs hpl h0
  go_enter Tryd.func31, Tryd.ntmps31
  go_wp2_with (first
    | (go_at_call 24; (with_reducible refine HS.out.mono ?_); rintro e w1 ⟨hb1, x, y, rfl, hst⟩; have HW := Lib.hid (HG.out _ _ _ hst); have HB := Lib.hid hb1; clear hst hb1))
  go_ret
  exact ⟨⟨_, rfl, HW.out⟩, HB.out⟩
end Go.Proofs.YtpgfgaloagdogaaDoor
