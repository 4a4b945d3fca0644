/-
  PROVED: tarifflaw13.CheckTests answers true for every list of nodes, every type (in form or not) and every list of names whose readings are of bulk at most 1048576 each, where the listed tables (the powers of ten, the tables of the encoding, the types of the language) lie as the texts lay them; the card ties that to the texts.
-/
import Derived.Test.YtalahkincccffaaGreatDoorTyrU
import Derived.Test.YtalahkincccffaaGreatDoorCards
import Derived.Test.YtalahkincccffaaGreatDoorTie
import Derived.SevenTiedAt
import Derived.ChangeMaps5
import Derived.Deep.DeepHandedRow
namespace Go.Proofs.YtalahkincccffaaGreatDoor
open Go.ChangeShapes Go.WideShapes Go.ChangeAt Go.RowKit Go.Joins Go.ChangeMaps

theorem checkTests_reads (os : Os) {H : Type} (enc : TypeId × Value → H) : ∃ places, DataW.whole enc Tryz.prog ((World.laidAll Tryz.prog os checkLaid).forCall (fun _ _ => 0) ⟨#[], #[.slice none 0 0, .agg #[.int .i64 0, .int .i64 0], .slice none 0 0], []⟩).memory Tryz.f4.params.toList Rows.checkTestsSpec.vars false (#[.slice none 0 0, .agg #[.int .i64 0, .int .i64 0], .slice none 0 0] : Array Value).toList 8 = some ([.nil, .agg [.lit (.int .i64 0), .lit (.int .i64 0)], .nil], [], places) :=
  ⟨[], by kernel_rfl⟩
set_option maxRecDepth 100000 in
theorem checkTests_lifted (os : Os) (started : os.Started) (H : Type) (enc : TypeId × Value → H) (F : Stop.Interp) :
    ReturnsInHanded {} Tryz.checked os 4 .any ((Rows.OpenSpec.upto Rows.checkTestsSpec).preRow enc Tryz.prog Tryz.f4 Rows.checkTestsUptoRow.domain false checkLaid) (((Rows.OpenSpec.upto Rows.checkTestsSpec).at F).post enc Tryz.prog Tryz.f4 false true false false) := by
  obtain ⟨places, hx⟩ := checkTests_reads os enc
  refine returnsInHanded_of_row (C := Tryz.checked) (s := Rows.OpenSpec.upto Rows.checkTestsSpec) iown started (by kernel_rfl) Tryz.func4
    (witness_row_shapedN (enc := enc) (C := Tryz.checked) (s := Rows.OpenSpec.upto Rows.checkTestsSpec) false (World.laidAll Tryz.prog os checkLaid) #[.slice none 0 0, .agg #[.int .i64 0, .int .i64 0], .slice none 0 0] (World.laidAll_os _ _ _) (World.shaped_of_ZipB (by kernel_rfl) (by kernel_rfl)) (by kernel_rfl)
      (OpenSpec.preRow_of_cond 8 hx (by kernel_rfl) (fun k hk => by cases hk; kernel_rfl) (by kernel_rfl) (by rw [MakeChecks.laidMetH_plain _ _ _ (by kernel_rfl)]; exact laidMet_laidAll _ (by kernel_rfl) (by kernel_rfl)))) ?_
  intro W0 base args ds gs before hval0 hW _ hcond _ hL _ _
  have hval : ∀ (j : Nat) t v, Tryz.f4.params[j]? = some t → args[j]? = some v → Value.okWide Tryz.prog W0 .any base t v := hval0
  have hW' := hW
  obtain ⟨p, q, hA0, hV, rfl, hfz, hnd⟩ := hW
  have hA : DataW.TrodAll enc Tryz.prog W0 0 (fun _ => true) true Tryz.f4.params.toList args.toList ds p := hA0
  rw [Tryz.params4] at hA hval
  obtain ⟨v0, vs0, d0, ds0, p0, q0, hargs, rfl, rfl, h0, r0⟩ := trodAll_cons hA
  obtain ⟨v1, vs1, d1, ds1, p1, q1, rfl, rfl, rfl, h1, r1⟩ := trodAll_cons r0
  obtain ⟨v2, vs2, d2, ds2, p2, q2, rfl, rfl, rfl, h2, r2⟩ := trodAll_cons r1
  obtain ⟨rfl, rfl, rfl⟩ := trodAll_nil r2
  obtain rfl : args = #[v0, v1, v2] := by cases args; simp_all
  obtain ⟨rfl, rfl⟩ := trodVars_none hV
  obtain ⟨L, hLL, hwf, hsm, -⟩ := nodes_of (hval 0 22 v0 rfl rfl) h0 (nbulk_one (hcond _ rfl) (by simp))
  obtain ⟨k1, o1, rfl, rfl, rfl, -, -⟩ := open_typeT (hval 1 26 v1 rfl rfl) h1
  obtain ⟨S, hSS, hsz, -, -⟩ := syms_of (hval 2 23 v2 rfl rfl) h2 (nbulk_one (hcond _ rfl) (by simp))
  clear hA0 hval0
  obtain ⟨hfg, hfw, hft⟩ := cfacts_of_laid hL
  refine (checkTests_law L (k1, o1) S _ W0 v0 v2 hLL hSS (Nat.le_refl _) hwf hsm hsz hfg hfw hft).mono fun e W' ⟨he, hbel⟩ => ?_
  subst he
  have hts : ∀ t ∈ Tryz.f4.params.toList, Tryz.prog.readableRec t = true ∧ t < Tryz.prog.types.size := by
    rw [Tryz.params4]
    intro t ht
    have hm : t ∈ [22, 26, 23] := by simpa using ht
    have hall : ([22, 26, 23].all fun u => Tryz.prog.readableRec u && decide (u < Tryz.prog.types.size)) = true := by kernel_rfl
    have h9 := List.all_eq_true.1 hall t hm
    simp only [Bool.and_eq_true, decide_eq_true_eq] at h9
    exact h9
  exact ⟨_, rfl, gpost_keep (s := Rows.checkTestsSpec) ilaidOut hts rfl hW' (fun _ _ _ => trodAll_mk1 (shut_bool Tryz.underlying4 _)) rfl rfl hbel (ok_one (by kernel_rfl) rfl (okWide_bool_mk Tryz.underlying4 _))⟩

theorem checkTests_holds : Rows.CheckTestsUptoSaid :=
  OpenClaim.holds_of_cond 4 Tryz.f4 rfl rfl rfl rfl rfl rfl rfl ⟨rfl, rfl, rfl, rfl, rfl⟩ rfl rfl rfl rfl rfl (by kernel_rfl) Tryz.func4 (by kernel_rfl)
    (of_decide_eq_true (by kernel_rfl)) (by unfold Func.isWrapper; first | (rw [if_pos (by decide +kernel)]; kernel_rfl) | (rw [if_neg (by decide +kernel)]; exact ⟨rfl, rfl⟩))
    (fun os started H enc _ F => by rw [OpenClaim.pre_eq_preRow]; exact checkTests_lifted os started H enc F)

theorem checkTests_card : Rows.CheckTestsUptoCardSaid :=
  Claim7.holds_tied_plain_at .later [] [.data, .data, .data, .data, .data, .data, .data, .data, .data, .pinned] true _ false
    checkTests_holds (fun _ h => by cases h) (by kernel_rfl) (fun _ h => by cases h) checkTestsUpto_row_tie rfl ⟨rfl, rfl⟩ (by kernel_rfl) rfl
    (fun f fn hf hfn => by
      obtain rfl : f = 4 := Option.some.inj ((show Tryz.prog.funcNamed "tariff/tarifflaw13.CheckTests" = some 4 by kernel_rfl).symm.trans hf) |>.symm
      obtain rfl : fn = Tryz.f4 := (Option.some.inj (Tryz.func4.symm.trans hfn)).symm
      exact ⟨by kernel_rfl, fun j t ht => by
        rw [Tryz.params4] at ht
        have hm : t ∈ [22, 26, 23] := by simpa using Array.mem_of_getElem? ht
        have hall : ([22, 26, 23].all fun u => !Tryz.prog.wantsStandIn u) = true := by kernel_rfl
        exact (show Tryz.prog.wantsStandIn t = false by simpa using List.all_eq_true.1 hall t hm)⟩)
    (by kernel_rfl)
end Go.Proofs.YtalahkincccffaaGreatDoor
