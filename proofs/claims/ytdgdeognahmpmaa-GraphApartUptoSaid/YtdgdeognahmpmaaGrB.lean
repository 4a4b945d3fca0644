/-
  The heap's methods by its interface; container/heap's up.
-/
import Derived.Test.YtdgdeognahmpmaaGrA
namespace Go.Proofs.Ytdgdeognahmpmaa
open Go.RowKit
open Hp (at_ swp)
attribute [local go_sem] setCell_drewN cell?_ext frozen?_ext shape?_ext setCell_ext lt_1' ne_1' en_1' le_1' lt_2' ne_2' en_2' le_2' lt_3' ne_3' en_3' le_3' lt_4' ne_4' en_4' le_4' lt_5' ne_5' en_5' le_5' lt_6' ne_6' en_6' le_6' lt_7' ne_7' en_7' le_7' lt_8' ne_8' en_8' le_8' lt_9' ne_9' en_9' le_9' lt_10' ne_10' en_10' le_10' lt_11' ne_11' en_11' le_11' lt_12' ne_12' en_12' le_12'

/-- a method's row of the pointer's type -/
noncomputable def rowOf (name : String) : Option (Option (List FieldStep × Option (FuncId × Bool))) := (Try.prog.info? 40).map fun i => (i.methods.find? (·.name == name)).map fun m => (m.path.toList, m.func)
theorem ways_of {name : String} {f : FuncId} {b : Bool} (h : rowOf name = some (some ([], some (f, b)))) : ∃ (i : TypeInfo) (m : Method), Try.prog.info? 40 = some i ∧ i.methods.find? (·.name == name) = some m ∧ m.path = #[] ∧ m.func = some (f, b) := by
  obtain ⟨i, hi, h2⟩ := Option.map_eq_some_iff.1 h
  obtain ⟨m, hm, h3⟩ := Option.map_eq_some_iff.1 h2
  injection h3 with h4 h5
  exact ⟨i, m, hi, hm, by rcases m with ⟨a, b, ⟨c⟩, d⟩; simp at h4; subst h4; rfl, h5⟩
theorem meth_val {name : String} {f : FuncId} (h : rowOf name = some (some ([], some (f, false)))) {w : World} {p : Nat} {v : Value} (hd : w.cell? ⟨p, 0, none⟩ = some v) (n : Nat) : (method (n + 1) 40 (.pointer (some ⟨p, 0, none⟩)) name).run Try.prog w = .ok (f, v) w := by
  obtain ⟨i, m, hi, hm, hp, hf⟩ := ways_of h
  have a := Try.isAgg41
  have u := Try.underlying40
  unfold method
  simp only [Sem.run_bind, run_typeInfo w hi, Result.andThen_ok, hm, hp, hf, follow, Sem.run_pure]
  have hs : ∀ (x y : String) (w : World), (Builtin.ssaWrapNilChk_ #[40] 40 #[.pointer (some ⟨p, 0, none⟩), strVal x, strVal y]).run Try.prog w = .ok (.pointer (some ⟨p, 0, none⟩)) w := fun _ _ _ => rfl
  simp [receiverAt, Place.get, run_underlying u, hs, asAddr, loadVar, a, hd, go_sem]
theorem meth_ptr {name : String} {f : FuncId} (h : rowOf name = some (some ([], some (f, true)))) (w : World) (p : Nat) (n : Nat) : (method (n + 1) 40 (.pointer (some ⟨p, 0, none⟩)) name).run Try.prog w = .ok (f, .pointer (some ⟨p, 0, none⟩)) w := by
  obtain ⟨i, m, hi, hm, hp, hf⟩ := ways_of h
  have u := Try.underlying40
  unfold method
  simp only [Sem.run_bind, run_typeInfo w hi, Result.andThen_ok, hm, hp, hf, follow, Sem.run_pure]
  simp [receiverAt, Place.get, run_underlying u, go_sem]
theorem rowLen : rowOf "Len" = some (some ([], some (26, false))) := by kernel_rfl
theorem rowLess : rowOf "Less" = some (some ([], some (46, false))) := by kernel_rfl
theorem rowSwap : rowOf "Swap" = some (some ([], some (49, false))) := by kernel_rfl
theorem rowPush : rowOf "Push" = some (some ([], some (48, true))) := by kernel_rfl
theorem rowPop : rowOf "Pop" = some (some ([], some (47, true))) := by kernel_rfl
theorem par_z (k : Nat) (hk : k ≤ 1000000) : wrap64 (((k : Int) - 1).tdiv 2) = ((Hp.par k : Nat) : Int) := by
  have h : ((k : Int) - 1).tdiv 2 = ((Hp.par k : Nat) : Int) := by
    by_cases h0 : k = 0
    · subst h0; rfl
    · rw [Int.tdiv_eq_ediv_of_nonneg (by omega)]
      unfold Hp.par
      omega
  rw [h]
  have : Hp.par k ≤ k := by unfold Hp.par; omega
  unfold wrap64
  omega
theorem HC.small {w : World} {p g cap : Nat} {l : List Nat} (h : HC w p g cap l) : l.length ≤ 1000000 := by have := h.few; omega
set_option maxHeartbeats 8000000 in
theorem up_any {w : World} {p g cap : Nat} {l : List Nat} (h : HC w p g cap l) (j : Nat) (hj : j < l.length) (hu : Hp.Up l j l.length) :
    Calls Try.prog 28 #[.iface 40 (.pointer (some ⟨p, 0, none⟩)), .int .i64 (j : Int)] w fun e w' => e = .returned (.tuple #[]) ∧ ∃ l', l'.Perm l ∧ Hp.Heap l' l'.length ∧ HC w' p g cap l' ∧ Oth (· = g) w w' := by
  have hsm := h.small
  have HH := Lib.hid h
  have HU := Lib.hid hu
  clear h hu
  go_enter Try.func28, Try.ntmps28
  go_wp2
  go_loopw [1] (fun z wr => ∃ (k : Nat) (m : List Nat), z = .int .i64 k ∧ k < m.length ∧ Hid (m.length = l.length) ∧ Hid (m.Perm l) ∧ Hid (Hp.Up m k m.length) ∧ Hid (HC wr p g cap m) ∧ Hid (Oth (· = g) w wr)) (fun z _ => (intOf z).toNat)
  case atStart => exact ⟨j, l, rfl, hj, Lib.hid rfl, Lib.hid (List.Perm.refl _), HU, HH, Lib.hid (Oth.refl _ _)⟩
  case round =>
    obtain ⟨k, m, rfl, hk, hml, hp, hup, hc, ho⟩ := hrel
    have hms : m.length ≤ 1000000 := by rw [hml.out]; exact hsm
    have W1 : IntKind.i64.wrap ((k : Int) - 1) = (k : Int) - 1 := IntWalk.i64_in _ (by omega)
    obtain ⟨q, hq⟩ : ∃ q, q = Hp.par k := ⟨_, rfl⟩
    have hqz := par_z k (by omega)
    rw [← hq] at hqz
    by_cases h0 : k = 0
    · have hst := hup.out.stop (.inl h0)
      have HST := Lib.hid hst
      obtain rfl : q = 0 := by rw [hq, h0]
      subst h0
      clear hq hst
      go_wp2
      refine bodyPost_end (results_none rfl _ _ _) rfl ?_
      exact ⟨rfl, m, hp.out, HST.out, hc.out, ho.out⟩
    · have hqk : q < k := by rw [hq]; unfold Hp.par; omega
      have hqz2 : ((k : Int) - 1) / 2 = (q : Int) := by rw [hq]; unfold Hp.par; omega
      have hne : ((q : Int) == (k : Int)) = false := beq_eq_false_iff_ne.2 (by omega)
      have hmL := fun n => meth_val rowLess hc.out.hd n
      have hmS := fun (wx : World) (hx : HC wx p g cap m) n => meth_val rowSwap hx.hd n
      have HL := Lib.hid (less_any hc.out k q hk (by omega))
      have HS := Lib.hid hmS
      by_cases hlt : at_ m k < at_ m q
      · have hst := hup.out.step (by omega) hk (Nat.le_refl _) (by rw [← hq]; exact hlt)
        rw [← hq] at hst
        have HST := Lib.hid hst
        have HPM := Lib.hid (Hp.swp_perm (l := m) (i := q) (j := k) (by omega) hk)
        have hd1 : decide ((at_ m k : Int) < (at_ m q : Int)) = true := decide_eq_true (by omega)
        have HL' := HL.out
        rw [hd1] at HL'
        have HLL := Lib.hid HL'
        clear hq hst hmS HL HL' hd1 hlt
        have HSW := Lib.hid (fun d => swap_any (hc.out.drew d) q k (by omega) hk)
        go_wp2_with (first
          | (go_at_call 46; ((with_reducible refine (HLL.out).mono ?_); rintro e w1 ⟨rfl, d, rfl⟩; have hmW := HS.out _ (hc.out.drew d)))
          | (go_at_call 49; ((with_reducible refine (HSW.out _).mono ?_); rintro e w2 ⟨rfl, hc2, ho2⟩; have HC2 := Lib.hid hc2; have HO2 := Lib.hid ((ho.out.drew _).trans ho2); clear hc2 ho2 hmW)))
        go_roundw
        case rel => exact ⟨q, swp m q k, rfl, by rw [Hp.swp_len]; omega, Lib.hid (by rw [Hp.swp_len]; exact hml.out), Lib.hid (HPM.out.trans hp.out), Lib.hid (by rw [Hp.swp_len]; exact HST.out), HC2, HO2⟩
        case measure => simp [intOf]; omega
      · have hst := hup.out.stop (.inr (by rw [← hq]; omega))
        have HST := Lib.hid hst
        have hd1 : decide ((at_ m k : Int) < (at_ m q : Int)) = false := decide_eq_false (by omega)
        have HL' := HL.out
        rw [hd1] at HL'
        have HLL := Lib.hid HL'
        clear hq hst hmS HL HL' hd1 hlt
        go_wp2_with (go_at_call 46; ((with_reducible refine (HLL.out).mono ?_); rintro e w1 ⟨rfl, d, rfl⟩))
        refine bodyPost_end (results_none rfl _ _ _) rfl ?_
        exact ⟨rfl, m, hp.out, HST.out, hc.out.drew _, ho.out.drew _⟩
end Go.Proofs.Ytdgdeognahmpmaa
