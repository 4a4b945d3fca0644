/-
  The document's check of instructions: its lists of ways, in memory.
-/
import Derived.Test.YtkfkdlneafeglaaDoorCodE
import Derived.Test.YtkfkdlneafeglaaDoorCodD
import Derived.Test.YtkfkdlneafeglaaDoorOl
import Derived.BigRegion
import Derived.Laws.StructEq
namespace Go.Proofs.YtkfkdlneafeglaaDoor
open Go.RowKit Go.Maps Go.WideMaps Vm
attribute [local go_sem] setCell_drewN cell?_ext frozen?_ext shape?_ext setCell_ext lt_1' ne_1' en_1' le_1' lt_2' ne_2' en_2' le_2' lt_3' ne_3' en_3' le_3' lt_4' ne_4' en_4' le_4' lt_5' ne_5' en_5' le_5' lt_6' ne_6' en_6' le_6' lt_7' ne_7' en_7' le_7' lt_8' ne_8' en_8' le_8' lt_9' ne_9' en_9' le_9' lt_10' ne_10' en_10' le_10' lt_11' ne_11' en_11' le_11' lt_12' ne_12' en_12' le_12'

/-- lists of ways -/
def wK : El := { T := 57, S := 59, size := 2, bytes := 16, zero := .agg #[.int .i64 0, .int .i64 0] }
theorem wK_ok : wK.Ok Tryd.prog := ⟨Tryd.underlying59, by kernel_rfl, by rfl, by decide, by decide, by decide⟩
def wE (s : St) : List Value := [.int .i64 s.1, .int .i64 s.2]
theorem wE_cells : Cells wK wE := fun s => ⟨rfl, fun u hu => by
  unfold wE at hu
  simp at hu
  rcases hu with rfl | rfl <;> rfl⟩
theorem way_eq (a b : St) (w : World) : (Op.equalIn 10000 57 (StV a) (StV b)).run Tryd.prog w = .ok (decide (a = b)) w := by
  have u2 := Tryd.underlying3
  have a2 := Tryd.isAgg3
  have z2 := Tryd.sizeOf3
  have hS : Tryd.prog.underlying 57 = some (.struct (Tryd.prog.fieldsOf 57)) := by kernel_rfl
  have hp : Tryd.prog.stoodInHeld 57 = false := by kernel_rfl
  have hd : decide (a = b) = (a.1 == b.1 && a.2 == b.2) := by
    rw [Bool.eq_iff_iff]; simp [Prod.ext_iff]
  rw [hd, show (10000 : Nat) = 9999 + 1 from rfl, run_equalIn_agg w 9999 57 _ _ hS hp]
  simp only [Program.fieldsOf, Tryd.underlying57]
  cases h1 : a.1 == b.1 <;> cases h2 : a.2 == b.2 <;> go_simp
/-- a list of ways that is read -/
def WRd (w : World) (v : Value) (l : List St) : Prop := ∃ q c, v = .slice q l.length c ∧ (0 < l.length → ∃ g, q = some ⟨g, 0, none⟩ ∧ ∀ j (h : j < l.length), w.cell? ⟨g, j * 2, none⟩ = some (.int .i64 l[j].1) ∧ w.cell? ⟨g, j * 2 + 1, none⟩ = some (.int .i64 l[j].2))
theorem OL.wrd {B : Nat} {w : World} {v : Value} {l : List St} (h : OL wK wE B w v l) : WRd w v l := by
  obtain ⟨q, c, rfl, h1, -⟩ := OL.form h
  refine ⟨q, c, rfl, fun h0 => ?_⟩
  obtain ⟨g, rfl, -, -⟩ := h1 h0
  exact ⟨g, rfl, fun j hj => ⟨OL.cell wE_cells h j 0 hj rfl, OL.cell wE_cells h j 1 hj rfl⟩⟩
set_option maxRecDepth 100000 in
theorem alike_any (l : List St) (w : World) (v : Value) (h : WRd w v l) (hl : l.length ≤ 1000000) :
    Calls Tryd.prog 25 #[v] w fun e w' => e = .returned (.bool (alike l)) ∧ ∃ d, w' = w.drewN d := by
  obtain ⟨q, c, rfl, h2⟩ := h
  have H2 := Lib.hid h2
  obtain ⟨R, hR⟩ : ∃ R, R = alike l := ⟨_, rfl⟩
  have HR := Lib.hid hR
  rw [← hR]
  obtain ⟨n, hn⟩ : ∃ n, n = l.length := ⟨_, rfl⟩
  have HN := Lib.hid hn
  rw [← hn] at hl ⊢
  have hmg : Tryd.prog.eqGuardType Tryd.prog.depth 57 = false := by kernel_rfl
  clear h2 hR hn
  go_enter Tryd.func25, Tryd.ntmps25
  go_wp2
  go_loopw [3] (fun z wr => ∃ k : Nat, z = .int .i64 k ∧ k ≤ n ∧ (∃ d, wr = w.drewN d) ∧ Hid (∀ j (h : j < l.length) (h0 : 0 < l.length), j < k → l[j] = l[0])) (fun z _ => n - (intOf z).toNat)
  case atStart => exact ⟨0, rfl, Nat.zero_le _, ⟨0, rfl⟩, Lib.hid (fun i _ _ h => absurd h (Nat.not_lt_zero _))⟩
  case round =>
    obtain ⟨k, rfl, hk, ⟨d, rfl⟩, hall⟩ := hrel
    by_cases hlt : k < n
    · have hkl : k < l.length := by rw [← HN.out]; exact hlt
      have hlti : (k : Int) < (n : Int) := by omega
      have h0i : (0 : Int) < (n : Int) := by omega
      obtain ⟨g, rfl, hc⟩ := H2.out (by omega)
      obtain ⟨x0, x1⟩ := hc k hkl
      obtain ⟨y0, y1⟩ := hc 0 (by omega)
      obtain ⟨s, hs⟩ : ∃ s, s = l[k] := ⟨_, rfl⟩
      obtain ⟨u, hu⟩ : ∃ u, u = l[0]'(by omega) := ⟨_, rfl⟩
      rw [← hs] at x0 x1
      rw [← hu] at y0 y1
      have HEQ0 := fun w => way_eq s u w
      by_cases hsu : s = u
      · rw [decide_eq_true hsu] at HEQ0
        have HA := Lib.hid (show ∀ j (h : j < l.length) (h0 : 0 < l.length), j < k + 1 → l[j] = l[0] from fun j hj h0 h => by
          by_cases e : j = k
          · subst e; rw [← hs, hsu, hu]
          · exact hall.out j hj h0 (by omega))
        obtain ⟨s1, s2⟩ := s
        obtain ⟨u1, u2⟩ := u
        simp only at x0 x1 y0 y1 HEQ0
        clear hs hu hsu hc hall
        go_wp2
        go_region
        all_goals
          go_wp2
          go_roundw
          case rel => exact ⟨k + 1, by go_num, by omega, ⟨_, rfl⟩, HA⟩
          case measure => simp [intOf]; omega
      · rw [decide_eq_false hsu] at HEQ0
        have HF := Lib.hid (show R = false by
          rw [HR.out]
          exact alike_two (List.getElem_mem hkl) (List.getElem_mem (by omega : 0 < l.length)) (by rw [← hs, ← hu]; exact hsu))
        obtain ⟨s1, s2⟩ := s
        obtain ⟨u1, u2⟩ := u
        simp only at x0 x1 y0 y1 HEQ0
        clear hs hu hsu hc hall
        go_wp2
        go_region
        all_goals
          go_wp2
          go_ret
          exact ⟨by rw [HF.out]; rfl, _, rfl⟩
    · have HF := Lib.hid (show R = decide (0 < n) by
        rw [HR.out]
        by_cases h0 : 0 < l.length
        · rw [decide_eq_true (by rw [HN.out]; omega)]
          refine (alike_of (s := l[0]) (by intro e; rw [e] at h0; cases h0) fun x hx => ?_).1
          obtain ⟨j, hj, rfl⟩ := List.getElem_of_mem hx
          exact hall.out j hj h0 (by rw [← HN.out] at hj; omega)
        · have e : l = [] := List.eq_nil_of_length_eq_zero (by omega)
          rw [HN.out, e]; rfl)
      have hlti : ¬ (k : Int) < (n : Int) := by omega
      go_wp2
      go_ret
      exact ⟨by rw [HF.out]; rfl, _, rfl⟩
end Go.Proofs.YtkfkdlneafeglaaDoor
