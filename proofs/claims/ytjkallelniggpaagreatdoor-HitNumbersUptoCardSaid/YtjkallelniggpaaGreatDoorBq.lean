/-
  HitNumbers, the law.
  HitNumbers' argument as it lies; the listed tables; the row's last step.
-/
import Derived.Test.YtjkallelniggpaaGreatDoorHitR
import Derived.Test.YtjkallelniggpaaGreatDoorValL
import Derived.Stop.LaidErr
import Derived.Lib.LaidU8T
import Derived.PinnedBridge
import Derived.Lay
import Derived.LaidOnce
import Derived.SizedLaws
import Derived.Deep.DeepHandedRow
import Derived.Test.YtjkallelniggpaaGreatDoorWideC
import Derived.Test.YtjkallelniggpaaGreatDoorValid
namespace Go.Proofs.YtjkallelniggpaaGreatDoor
open Go.RowKit Word Txt

theorem out_null {p : Int} {vs : List V} (hp : p ≠ 11) (h : ¬ (vs ≠ [] ∧ (vs.all fun v => v.kind == 2) = true)) : outN p vs = (none, 0) := by
  unfold outN
  rw [if_neg hp]
  cases vs with
  | nil => rfl
  | cons v0 r =>
    simp only
    rw [if_neg fun e => h ⟨by simp, e⟩]
theorem out_num {p : Int} {v0 : V} {r : List V} (hp : p ≠ 11) (h : ((v0 :: r).all fun v => v.kind == 2) = true) : outN p (v0 :: r) = (if (foldN p (numV v0) (r.map numV)).2 = 0 then some (foldN p (numV v0) (r.map numV)).1 else none, (foldN p (numV v0) (r.map numV)).2) := by
  unfold outN
  rw [if_neg hp]
  simp only
  rw [if_pos h]
set_option maxRecDepth 100000 in
set_option maxHeartbeats 4000000 in
theorem hitNumbers_law (ns : List ByteArray) (O R : List (List V)) (T : List V) (w : World) (nv ov rv tv : Value) (hN : SRdS w nv ns) (hO : WSl w.heap.size w O ov) (hR : WSl w.heap.size w R rv) (hX : VSl w.heap.size w T tv) (fN : ns.length ≤ 1048576) (fO : Few O) (fR : Few R) (fT : T.length ≤ 1048576) (hT : Tens w) (hU : Tabs w) :
    Calls Tryz.prog 3 #[RowsV nv ov rv tv] w fun e w' => e = .returned (.bool true) ∧ Below w.heap.size w w' := by
  have HD : ∀ p : Int, 8 ≤ p → p ≤ 11 → ∀ w', Below w.heap.size w w' → Calls Tryz.prog 5 #[.int .i64 p, RowsV nv ov rv tv] w' fun e w'' => NumR (decN p ns O R T) w' e w'' := fun p h1 h2 w' hb =>
    ldec_any p ⟨h1, h2⟩ w.heap.size w' ns O R T nv ov rv tv (hN.below hb) (hO.below hb) (hR.below hb) (hX.below hb) fN fO fR fT hb.size (hT.below hb) (hU.below hb)
  obtain ⟨pn, cn, rfl, -⟩ := hN
  obtain ⟨po, co, rfl⟩ := hO.shape
  obtain ⟨pr, cr, rfl⟩ := hR.shape
  obtain ⟨pt, ct, rfl⟩ := hX.shape
  clear hO hR hX fN fO fR fT
  by_cases hF : formH ns O R T = true ∧ ns.length = 1
  · have hd : ∀ p, decN p ns O R T = outN p (valsN R T) := fun p => if_pos hF
    obtain ⟨hF, h1⟩ := hF
    obtain ⟨e1, hRows, hR60, hTl, hTok⟩ := formH_open hF
    have hRH : R = (heads R).map fun v => [v] := heads_one fun l hl => by rw [(hRows l hl).1, h1]
    have hRl : R.length = (heads R).length := by
      have := congrArg List.length hRH
      rwa [List.length_map] at this
    have hHc : ∀ v ∈ heads R, v.code = 0 := fun v hv => by
      have h9 := hRows [v] (by rw [hRH]; exact List.mem_map.2 ⟨v, hv, rfl⟩)
      exact okB_all h9.2 v (by simp)
    have hvc : ∀ v ∈ valsN R T, v.code = 0 := fun v hv => by
      unfold valsN at hv
      split at hv
      · exact okB_all hTok v hv
      · exact hHc v hv
    have hkk : (R.length ≠ 0 ∧ (valsN R T).length = R.length) ∨ (R.length = 0 ∧ 0 < T.length ∧ (valsN R T).length = 1) ∨ (R.length = 0 ∧ T.length = 0 ∧ (valsN R T).length = 0) := by
      by_cases hR0 : R = []
      · have hv : valsN R T = T := by unfold valsN; rw [if_pos hR0]
        rw [hv, hR0]
        rcases hTl with h | h
        · exact .inr (.inr ⟨rfl, h, h⟩)
        · exact .inr (.inl ⟨rfl, by omega, by omega⟩)
      · have hv : valsN R T = heads R := by unfold valsN; rw [if_neg hR0]
        rw [hv, ← hRl]
        exact .inl ⟨fun h => hR0 (List.length_eq_zero_iff.1 h), rfl⟩
    have hk60 : (valsN R T).length ≤ 60 := by omega
    have hd11 : ∀ w', Below w.heap.size w w' → Calls Tryz.prog 5 #[.int .i64 11, RowsV (.slice pn ns.length cn) (.slice po O.length co) (.slice pr R.length cr) (.slice pt T.length ct)] w' fun e w'' => NumR (some (false, (valsN R T).length, 0), 0) w' e w'' := fun w' hb => by
      have := HD 11 (by decide) (by decide) w' hb
      rw [hd 11, show outN 11 (valsN R T) = (some (false, (valsN R T).length, 0), 0) from if_pos rfl] at this
      exact this
    by_cases hall : valsN R T ≠ [] ∧ ((valsN R T).all fun v => v.kind == 2) = true
    · obtain ⟨vs, hvs⟩ : ∃ vs, vs = valsN R T := ⟨_, rfl⟩
      rw [← hvs] at hall hd11 hk60 hkk hvc hd
      cases vs with
      | nil => exact absurd rfl hall.1
      | cons v0 r =>
        have hk2 : ∀ v ∈ v0 :: r, v.kind = 2 := fun v hv => by have := List.all_eq_true.1 hall.2 v hv; simpa using this
        have hf0 : formN (numV v0) = true := (num_of (hvc v0 (by simp)) (hk2 v0 (by simp))).2
        have hfr : ∀ b ∈ r.map numV, formN b = true := fun b hb => by
          rw [List.mem_map] at hb
          obtain ⟨v, hv, rfl⟩ := hb
          exact (num_of (hvc v (by simp [hv])) (hk2 v (by simp [hv]))).2
        have hlow := fold_low hf0 hfr
        have hhigh := fold_high hf0 hfr
        have hfl := foldN_form hf0 hfr hlow.1
        have hfh := foldN_form hf0 hfr hhigh.1
        have hle := Int.le_trans hlow.2 hhigh.2
        have hdA : ∀ w', Below w.heap.size w w' → Calls Tryz.prog 5 #[.int .i64 9, RowsV (.slice pn ns.length cn) (.slice po O.length co) (.slice pr R.length cr) (.slice pt T.length ct)] w' fun e w'' => NumR (some (foldN 9 (numV v0) (r.map numV)).1, 0) w' e w'' := fun w' hb => by
          have := HD 9 (by decide) (by decide) w' hb
          rw [hd 9, out_num (by decide) hall.2, if_pos hlow.1, hlow.1] at this
          exact this
        have hdB : ∀ w', Below w.heap.size w w' → Calls Tryz.prog 5 #[.int .i64 10, RowsV (.slice pn ns.length cn) (.slice po O.length co) (.slice pr R.length cr) (.slice pt T.length ct)] w' fun e w'' => NumR (some (foldN 10 (numV v0) (r.map numV)).1, 0) w' e w'' := fun w' hb => by
          have := HD 10 (by decide) (by decide) w' hb
          rw [hd 10, out_num (by decide) hall.2, if_pos hhigh.1, hhigh.1] at this
          exact this
        have hdC : ∀ w', Below w.heap.size w w' → Calls Tryz.prog 5 #[.int .i64 8, RowsV (.slice pn ns.length cn) (.slice po O.length co) (.slice pr R.length cr) (.slice pt T.length ct)] w' fun e w'' => NumR (if (foldN 8 (numV v0) (r.map numV)).2 = 0 then some (foldN 8 (numV v0) (r.map numV)).1 else none, (foldN 8 (numV v0) (r.map numV)).2) w' e w'' := fun w' hb => by
          have := HD 8 (by decide) (by decide) w' hb
          rw [hd 8, out_num (by decide) hall.2] at this
          exact this
        by_cases hr : r = []
        · subst hr
          generalize numV v0 = a0 at hdA hdB hdC hf0
          obtain ⟨an, ac, az⟩ := a0
          have hdC' : ∀ w', Below w.heap.size w w' → Calls Tryz.prog 5 #[.int .i64 8, RowsV (.slice pn ns.length cn) (.slice po O.length co) (.slice pr R.length cr) (.slice pt T.length ct)] w' fun e w'' => NumR (some (an, ac, az), 0) w' e w'' := hdC
          have hdA' : ∀ w', Below w.heap.size w w' → Calls Tryz.prog 5 #[.int .i64 9, RowsV (.slice pn ns.length cn) (.slice po O.length co) (.slice pr R.length cr) (.slice pt T.length ct)] w' fun e w'' => NumR (some (an, ac, az), 0) w' e w'' := hdA
          have hdB' : ∀ w', Below w.heap.size w w' → Calls Tryz.prog 5 #[.int .i64 10, RowsV (.slice pn ns.length cn) (.slice po O.length co) (.slice pr R.length cr) (.slice pt T.length ct)] w' fun e w'' => NumR (some (an, ac, az), 0) w' e w'' := hdB
          have hdD' : ∀ w', Below w.heap.size w w' → Calls Tryz.prog 5 #[.int .i64 11, RowsV (.slice pn ns.length cn) (.slice po O.length co) (.slice pr R.length cr) (.slice pt T.length ct)] w' fun e w'' => NumR (some (false, 1, 0), 0) w' e w'' := hd11
          rcases hkk with ⟨h2, h3⟩ | ⟨h2, h3, -⟩ | ⟨-, -, h3⟩
          · have h4 : R.length = 1 := h3.symm
            rw [h4] at hdA' hdB' hdC' hdD' ⊢
            exact numbers_one w pn ns.length cn po O.length co pr cr pt T.length ct hT hU an ac az hf0 hdA' hdB' hdC' hdD'
          · rw [h2] at hdA' hdB' hdC' hdD' ⊢
            exact numbers_other w pn ns.length cn po O.length co pr cr pt T.length ct hT hU h3 an ac az hf0 hdA' hdB' hdC' hdD'
          · cases h3
        · have hrl : 0 < r.length := List.length_pos_iff.2 hr
          have hRk : R.length = (v0 :: r).length ∧ (v0 :: r).length ≠ 1 := by
            rw [List.length_cons] at hkk ⊢
            omega
          rw [← hRk.1] at hd11 hk60
          have hne1 : R.length ≠ 1 := by rw [hRk.1]; exact hRk.2
          have hne0 : R.length ≠ 0 := by rw [hRk.1, List.length_cons]; omega
          obtain ⟨⟨an, ac, az⟩, ha⟩ : ∃ a, a = (foldN 9 (numV v0) (r.map numV)).1 := ⟨_, rfl⟩
          obtain ⟨⟨bn, bc, bz⟩, hb⟩ : ∃ a, a = (foldN 10 (numV v0) (r.map numV)).1 := ⟨_, rfl⟩
          rw [← ha] at hdA hfl hle
          rw [← hb] at hdB hfh hle
          rcases fold_sum (r.map numV) (numV v0) with h8 | h8
          · obtain ⟨⟨sn, sc, sz⟩, hs⟩ : ∃ a, a = (foldN 8 (numV v0) (r.map numV)).1 := ⟨_, rfl⟩
            rw [if_pos h8, h8, ← hs] at hdC
            exact numbers_many w pn ns.length cn po O.length co pr cr pt T.length ct hT hU R.length hk60 hne0 hne1 an ac az bn bc bz sn sc sz hfl hfh hle hdA hdB hdC hd11
          · rw [if_neg (by rw [h8]; decide), h8] at hdC
            exact numbers_over w pn ns.length cn po O.length co pr cr pt T.length ct hT hU R.length hk60 hne0 hne1 an ac az bn bc bz hfl hfh hle hdA hdB hdC hd11
    · have hdn : ∀ p : Int, 8 ≤ p → p ≤ 10 → ∀ w', Below w.heap.size w w' → Calls Tryz.prog 5 #[.int .i64 p, RowsV (.slice pn ns.length cn) (.slice po O.length co) (.slice pr R.length cr) (.slice pt T.length ct)] w' fun e w'' => NumR (none, 0) w' e w'' := fun p h2 h3 w' hb => by
        have := HD p h2 (by omega) w' hb
        rw [hd p, out_null (by omega) hall] at this
        exact this
      exact numbers_null w pn ns.length cn po O.length co pr R.length cr pt T.length ct hT hU _ hk60 hkk hdn hd11
  · have hd : ∀ p, decN p ns O R T = (none, 2) := fun p => if_neg hF
    exact numbers_err w pn ns.length cn po O.length co pr R.length cr pt T.length ct hT hU fun p h1 h2 w' hb => by
      have := HD p h1 h2 w' hb
      rw [hd p] at this
      exact this
end Go.Proofs.YtjkallelniggpaaGreatDoor
namespace Go.Proofs.YtjkallelniggpaaGreatDoor
open Go.ChangeShapes Go.WideShapes Go.ChangeAt Go.RowKit Go.Joins Word Txt
theorem ucStr : Tryz.prog.cellsOf 9 = 1 := by kernel_rfl
theorem ucStrs : Tryz.prog.cellsOf 22 = 1 := by kernel_rfl
theorem ucVals : Tryz.prog.cellsOf 24 = 1 := by kernel_rfl
theorem ucRows : Tryz.prog.cellsOf 23 = 1 := by kernel_rfl
section
variable {H : Type} {enc : TypeId × Value → H} {P : Program} {w : World} {base : Nat} {spare : Nat → Bool} {held : Bool}
theorem trod_struct4U {t : TypeId} {f0 f1 f2 f3 : Field} {fuel : Nat} {cs : List Value} {x : DataW H × List MemPlace} (ht : P.underlying t = some (.struct #[f0, f1, f2, f3])) (h : DataW.trod enc P w base spare held fuel t cs = some x) :
    ∃ y0 y1 y2 y3 n, fuel = n + 1 ∧ x.1 = .agg [y0.1, y1.1, y2.1, y3.1] ∧ cs.length = P.cellsOf t ∧ DataW.trod enc P w base spare held n f0.type ((cs.drop f0.offset).take (P.cellsOf f0.type)) = some y0 ∧
      DataW.trod enc P w base spare held n f1.type ((cs.drop f1.offset).take (P.cellsOf f1.type)) = some y1 ∧ DataW.trod enc P w base spare held n f2.type ((cs.drop f2.offset).take (P.cellsOf f2.type)) = some y2 ∧
      DataW.trod enc P w base spare held n f3.type ((cs.drop f3.offset).take (P.cellsOf f3.type)) = some y3 := by
  obtain ⟨xs, n, hn, rfl, hl, hlen, hf⟩ := DataW.trod_struct ht h
  match xs, hlen with
  | [y0, y1, y2, y3], _ => exact ⟨y0, y1, y2, y3, n, hn, rfl, hl, by simpa using hf 0 f0 rfl, by simpa using hf 1 f1 rfl, by simpa using hf 2 f2 rfl, by simpa using hf 3 f3 rfl⟩
end
section
variable {H : Type} {enc : TypeId × Value → H} {w : World} {spare : Nat → Bool} {held : Bool}
theorem vals_of_trod {fuel : Nat} {cs : List Value} {x : DataW H × List MemPlace} (h : DataW.trod enc Tryz.prog w 0 spare held fuel 24 cs = some x) (hb : Rows.uptoBulk x.1 ≤ 1048576) :
    ∃ (l : List V) (lv : Value), cs = [lv] ∧ VSl w.heap.size w l lv ∧ l.length ≤ 1048576 := by
  rcases DataW.trod_slice Tryz.underlying24 h with ⟨rfl, -⟩ | ⟨ad, len, cap, elems, rest, n', hn', rfl, rfl, _, _, _, hlen, hel, _, _⟩
  · exact ⟨[], _, rfl, .inl ⟨rfl, none, 0, rfl⟩, by simp⟩
  · have hbl : Rows.uptoBulkAll (elems.map (·.1)) ≤ 1048576 := by
      have : Rows.uptoBulkAll (elems.map (·.1)) + Rows.uptoBulkAll (rest.map (·.1)) + 1 ≤ 1048576 := hb
      omega
    have hll := bulk_len (elems.map (·.1))
    rw [List.length_map] at hll
    have hget : ∀ i, i < len → ∃ v : V, ∃ z0 z1 z2 z3 z4 z5 z6 z7 z8 z9 : Value, (w.cell? (ad.add (i * 10)) = some z0 ∧ (ad.add (i * 10)).spot = none ∧ ∀ j, j < 10 → w.cell? ((ad.add (i * 10)).add j) = [z0, z1, z2, z3, z4, z5, z6, z7, z8, z9][j]?) ∧ v.At w.heap.size w (.agg #[z0, z1, z2, z3, z4, z5, z6, z7, z8, z9]) := by
      intro i hi
      have h1 := hel i hi
      rw [vcVal] at h1
      have hie : i < elems.length := by omega
      rw [List.getElem?_eq_getElem hie] at h1
      obtain ⟨cs', hc', ht'⟩ := Option.bind_eq_some_iff.1 h1
      obtain ⟨_, hc10, hcell⟩ := World.cells?_some hc'
      obtain ⟨z0, z1, z2, z3, z4, z5, z6, z7, z8, z9, rfl⟩ := list10 hc10
      have hm : elems[i].1 ∈ elems.map (·.1) := List.mem_map_of_mem (List.getElem_mem hie)
      obtain ⟨v, hv⟩ := value_of_trod n' ht' (Nat.le_trans (bulk_mem hm) hbl)
      have hz0 : w.cell? (ad.add (i * 10)) = some z0 := by have := hcell 0 (by omega); simpa [Addr.add] using this
      exact ⟨v, z0, z1, z2, z3, z4, z5, z6, z7, z8, z9, ⟨hz0, World.cell?_spot hz0, hcell⟩, hv⟩
    obtain ⟨l, hll', hp⟩ := list_of _ len hget
    refine ⟨l, _, rfl, ?_, by omega⟩
    by_cases h0 : len = 0
    · exact .inl ⟨List.length_eq_zero_iff.1 (by omega), some ad, cap, by rw [h0]⟩
    · obtain ⟨_, _, _, _, _, _, _, _, _, _, ⟨hc0, hsp, _⟩, _⟩ := hp 0 (by omega)
      have ha : ad.add (0 * 10) = ad := by simp [Addr.add]
      rw [ha] at hc0 hsp
      obtain ⟨g, o, sp⟩ := ad
      simp only at hsp
      subst hsp
      refine .inr ⟨g, o, cap, by rw [hll'], World.block_lt_of_cell? w _ hc0, World.block_lt_of_cell? w _ hc0, RowAt.of_get fun i hi => ?_⟩
      obtain ⟨z0, z1, z2, z3, z4, z5, z6, z7, z8, z9, ⟨_, _, hc⟩, hv⟩ := hp i hi
      have hadd : ∀ j, ((⟨g, o, none⟩ : Addr).add (i * 10)).add j = ⟨g, o + i * 10 + j, none⟩ := by
        intro j
        by_cases hi0 : i = 0
        · subst hi0
          by_cases hj0 : j = 0
          · subst hj0; rfl
          · simp [Addr.add, hj0]
        · have hi10 : ¬ i * 10 = 0 := by omega
          by_cases hj0 : j = 0
          · subst hj0; simp [Addr.add, hi10]
          · simp [Addr.add, hi10, hj0]
      have hc' : ∀ j, j < 10 → w.cell? ⟨g, o + i * 10 + j, none⟩ = [z0, z1, z2, z3, z4, z5, z6, z7, z8, z9][j]? := fun j hj => by rw [← hadd]; exact hc j hj
      exact ⟨z0, z1, z2, z3, z4, z5, z6, z7, z8, z9, hc' 0 (by omega), hc' 1 (by omega), hc' 2 (by omega), hc' 3 (by omega), hc' 4 (by omega), hc' 5 (by omega), hc' 6 (by omega), hc' 7 (by omega), hc' 8 (by omega), hc' 9 (by omega), hv⟩
theorem cap_of_trod {t e : TypeId} (ht : Tryz.prog.underlying t = some (.slice e)) {fuel : Nat} {q : Option Addr} {n c : Nat} {x : DataW H × List MemPlace} (h : DataW.trod enc Tryz.prog w 0 spare held fuel t [.slice q n c] = some x) : n ≤ c := by
  rcases DataW.trod_slice ht h with ⟨e, -⟩ | ⟨a, len, cap, elems, rest, m, _, e, _, _, hlc, _⟩
  · injection e with e; injection e with _ e2 e3; omega
  · injection e with e; injection e with _ e2 e3; omega
theorem slice_of_trod {t e : TypeId} (ht : Tryz.prog.underlying t = some (.slice e)) {fuel : Nat} {cs : List Value} {x : DataW H × List MemPlace} (h : DataW.trod enc Tryz.prog w 0 spare held fuel t cs = some x) : ∃ q n c, cs = [.slice q n c] := by
  rcases DataW.trod_slice ht h with ⟨rfl, -⟩ | ⟨a, len, cap, elems, rest, m, _, rfl, _⟩
  · exact ⟨_, _, _, rfl⟩
  · exact ⟨_, _, _, rfl⟩
theorem lists_of_trod {fuel : Nat} {cs : List Value} {x : DataW H × List MemPlace} (h : DataW.trod enc Tryz.prog w 0 spare held fuel 23 cs = some x) (hb : Rows.uptoBulk x.1 ≤ 1048576) :
    ∃ (R : List (List V)) (rv : Value), cs = [rv] ∧ WSl w.heap.size w R rv ∧ Few R := by
  rcases DataW.trod_slice Tryz.underlying23 h with ⟨rfl, -⟩ | ⟨a, len, cap, elems, rest, n, rfl, rfl, rfl, _, hlc, _, hlen, hel, _, _⟩
  · exact ⟨[], _, rfl, .inl ⟨rfl, none, 0, rfl⟩, by simp, by simp⟩
  · have hbl : Rows.uptoBulkAll (elems.map (·.1)) ≤ 1048576 := by
      have : Rows.uptoBulkAll (elems.map (·.1)) + Rows.uptoBulkAll (rest.map (·.1)) + 1 ≤ 1048576 := hb
      omega
    have hll := bulk_len (elems.map (·.1))
    rw [List.length_map] at hll
    have hget : ∀ i, i < len → ∃ l : List V, ∃ vi, w.cell? (a.add i) = some vi ∧ VSl w.heap.size w l vi ∧ l.length ≤ 1048576 := by
      intro i hi
      have h1 := hel i hi
      rw [ucVals, Nat.mul_one] at h1
      have hie : i < elems.length := by omega
      rw [List.getElem?_eq_getElem hie] at h1
      obtain ⟨cs', hc, ht⟩ := Option.bind_eq_some_iff.1 h1
      have hm : elems[i].1 ∈ elems.map (·.1) := List.mem_map_of_mem (List.getElem_mem hie)
      obtain ⟨l, lv, rfl, hL, hl⟩ := vals_of_trod ht (Nat.le_trans (bulk_mem hm) hbl)
      obtain ⟨_, _, hcell⟩ := World.cells?_some hc
      exact ⟨l, lv, by have := hcell 0 (by omega); simpa [Addr.add] using this, hL, hl⟩
    obtain ⟨R, hR, hp⟩ := list_of _ len hget
    refine ⟨R, _, rfl, ?_, by omega, fun l hl => ?_⟩
    · by_cases h0 : len = 0
      · refine .inl ⟨List.length_eq_zero_iff.1 (by omega), some a, cap, by rw [h0]⟩
      · obtain ⟨vi, hc0, -, -⟩ := hp 0 (by omega)
        have ha : a.add 0 = a := by simp [Addr.add]
        rw [ha] at hc0
        have hspot := World.cell?_spot hc0
        obtain ⟨g, o, sp⟩ := a
        simp only at hspot
        subst hspot
        refine .inr ⟨g, o, cap, by rw [hR], by omega, World.block_lt_of_cell? w _ hc0, World.block_lt_of_cell? w _ hc0, fun i hi => ?_⟩
        obtain ⟨vi, h1, h2, -⟩ := hp i hi
        refine ⟨vi, ?_, h2⟩
        by_cases h3 : i = 0
        · subst h3; simpa [Addr.add] using h1
        · simpa [Addr.add, h3] using h1
    · obtain ⟨i, hi, rfl⟩ := List.getElem_of_mem hl
      obtain ⟨_, _, _, h9⟩ := hp i hi
      exact h9
set_option maxRecDepth 100000 in
theorem rows_of {r : Reach} {b0 : Nat} {x : Value} {d : DataW H} {p : List MemPlace} (hv : Value.okWide Tryz.prog w r b0 26 x) (h : DataW.Trod enc Tryz.prog w 0 spare held 26 x d p) (hb : Rows.uptoBulk d ≤ 1048576) :
    ∃ (ns : List ByteArray) (O R : List (List V)) (T : List V) (nv ov rv tv : Value), x = RowsV nv ov rv tv ∧ SRdS w nv ns ∧ WSl w.heap.size w O ov ∧ WSl w.heap.size w R rv ∧ VSl w.heap.size w T tv ∧ ns.length ≤ 1048576 ∧ Few O ∧ Few R ∧ T.length ≤ 1048576 := by
  obtain ⟨cs, rfl, hsz⟩ := okWide_struct Tryz.underlying26 hv
  obtain ⟨fuel, hf⟩ := h
  simp only [Value.cells] at hf
  obtain ⟨y0, y1, y2, y3, n, rfl, hx, hl, g0, g1, g2, g3⟩ := trod_struct4U Tryz.underlying26 hf
  simp only at hx
  rw [hx] at hb
  have hb' : Rows.uptoBulkAll [y0.1, y1.1, y2.1, y3.1] ≤ 1048576 := by
    have : Rows.uptoBulkAll [y0.1, y1.1, y2.1, y3.1] + 1 ≤ 1048576 := hb
    omega
  have b0 := Nat.le_trans (bulk_mem (d := y0.1) (by simp)) hb'
  have b1 := Nat.le_trans (bulk_mem (d := y1.1) (by simp)) hb'
  have b2 := Nat.le_trans (bulk_mem (d := y2.1) (by simp)) hb'
  have b3 := Nat.le_trans (bulk_mem (d := y3.1) (by simp)) hb'
  have hl4 : cs.toList.length = 4 := by rw [hl]; kernel_rfl
  obtain ⟨x0, x1, x2, x3, hcs⟩ : ∃ x0 x1 x2 x3, cs.toList = [x0, x1, x2, x3] := by
    match hq : cs.toList, hl4 with
    | [x0, x1, x2, x3], _ => exact ⟨_, _, _, _, rfl⟩
  rw [hcs] at g0 g1 g2 g3
  simp only [ucStrs, ucVals, ucRows] at g0 g1 g2 g3
  obtain rfl : cs = #[x0, x1, x2, x3] := by cases cs; simp_all
  simp at g0 g1 g2 g3
  obtain ⟨ns, nv, e0, hN, -, fN⟩ := names_of_trod g0 b0
  obtain ⟨q, m, c, e9⟩ := slice_of_trod Tryz.underlying22 g0
  have hcap := cap_of_trod Tryz.underlying22 (e9 ▸ g0)
  obtain ⟨O, ov, e1, hO, fO⟩ := lists_of_trod g1 b1
  obtain ⟨R, rv, e2, hR, fR⟩ := lists_of_trod g2 b2
  obtain ⟨T, tv, e3, hT, fT⟩ := vals_of_trod g3 b3
  injection e0 with e0
  injection e1 with e1
  injection e2 with e2
  injection e3 with e3
  injection e9 with e9
  subst e0 e1 e2 e3 e9
  exact ⟨ns, O, R, T, _, _, _, _, rfl, SRdS.of hN hcap, hO, hR, hT, fN, fO, fR, fT⟩
end
theorem ownU : ownKnob Tryz.prog.godebug = none := by kernel_rfl
theorem laidOutU : laidOutB Tryz.prog = true := by kernel_rfl
def numLaid : List (String × DataW Unit) := [("unicode/utf8.acceptRanges", Rows.laid_unicode_utf8_acceptRanges), ("tariff/wide.tens", Rows.laid_tariff_wide_tens), ("unicode/utf8.first", Rows.laid_unicode_utf8_first)]
theorem hgTensU : Tryz.prog.globalNamed "tariff/wide.tens" = some 0 := by kernel_rfl
theorem htTensU : (Tryz.prog.globals[0]?).map (·.type) = some 112 := by kernel_rfl
theorem hcWordU : Tryz.prog.cellsOf 28 = 1 := by kernel_rfl
theorem hcTensU : Tryz.prog.cellsOf 112 = 20 := by kernel_rfl
def htensU_List : List Int := [1, 10, 100, 1000, 10000, 100000, 1000000, 10000000, 100000000, 1000000000, 10000000000, 100000000000, 1000000000000, 10000000000000, 100000000000000, 1000000000000000, 10000000000000000, 100000000000000000, 1000000000000000000, 10000000000000000000]
theorem htensU__data : (Rows.laid_tariff_wide_tens : DataW Unit) = Lib.tabData .u64 htensU_List := rfl
theorem htensU__at : ∀ j : Fin 20, htensU_List.getD j.val 0 = ((10 ^ j.val : Nat) : Int) := by decide
theorem haccept_dataU : (Rows.laid_unicode_utf8_acceptRanges : DataW Unit) = Lib.acceptData := by kernel_rfl
theorem hfirst_dataU : Rows.laid_unicode_utf8_first = Lib.firstData := Pinned.utf8First_eq
theorem hxU8U : U8Extra Tryz.prog Tryz.lays196_ren := ⟨by kernel_rfl, by kernel_rfl, by kernel_rfl, by kernel_rfl, by kernel_rfl, by kernel_rfl, by kernel_rfl⟩
/-- all that the walks ask of the start -/
theorem nfacts_of_laid {W : World} (h : laidMetH Tryz.prog numLaid W) : Tens W ∧ Tabs W ∧ True := by
  rw [MakeChecks.laidMetH_plain _ _ _ (by kernel_rfl)] at h
  have h2 := Lib.laidMet.reads h (n := "tariff/wide.tens") (d := Rows.laid_tariff_wide_tens) (.tail _ (.head _))
  have h3 := Lib.laidMet.reads h (n := "unicode/utf8.first") (d := Rows.laid_unicode_utf8_first) (.tail _ (.tail _ (.head _)))
  have h4 := Lib.laidMet.reads h (n := "unicode/utf8.acceptRanges") (d := Rows.laid_unicode_utf8_acceptRanges) (.head _)
  refine ⟨?_, ?_, trivial⟩
  · rw [htensU__data] at h2
    obtain ⟨g', t', cs, fuel, p, hg', ht', hvar, hd⟩ := h2
    obtain rfl := Option.some.inj (hgTensU.symm.trans hg')
    obtain rfl := Option.some.inj (htTensU.symm.trans ht')
    have hti : Lib.TabIs Tryz.prog W "tariff/wide.tens" .u64 htensU_List := by
      unfold Lib.TabIs
      rw [hvar, ← Lib.cells_of_tab Tryz.underlying112 Tryz.underlying28 hcWordU hcTensU hd]
    have hc : ∀ j, j < 20 → W.cell? ⟨0, j, none⟩ = some (.int .u64 (p10 j : Int)) := fun j hj => by
      have := Lib.TabIs.cell hti hgTensU j hj
      rw [htensU__at ⟨j, hj⟩] at this
      exact this
    exact ⟨World.block_lt_of_cell? W _ (hc 0 (by decide)), hc⟩
  · rw [hfirst_dataU] at h3
    rw [haccept_dataU] at h4
    have hT : Lib.Utf8Tabs 1 2 W := utf8Tabs_of_readsT (U8Types.of196 Tryz.lays196) hxU8U h3 h4
    exact ⟨hT, World.block_lt_of_cell? W _ (hT.1 0 (by decide)), World.block_lt_of_cell? W _ (hT.2 0 (by decide)).1⟩
section
variable {H : Type} {enc : TypeId × Value → H} {P : Program}
/-- the row's last step where nothing below the first new block has turned, and the arguments read as they did -/
theorem post_keepU {f : Func} {s : ChangeSpec} {apart fresh handsOn again : Bool} {A B : World} {args : Array Value} {v : Value} {ds : List (DataW H)} {ps : List MemPlace}
    (hl : laidOutB P = true) (hts : ∀ t ∈ f.params.toList, P.readableRec t = true ∧ t < P.types.size) (hvars : s.vars = [])
    (hA : DataW.Whole enc P f.params.toList s.vars apart A args.toList ds [] ps)
    (hr : ∀ (b : Nat) (sp : Nat → Bool) (hd : Bool), DataW.TrodAll enc P B b sp hd f.resultTypes.toList (v.resultList f.resultTypes.size) (s.fn H ds).results [])
    (hargs : (s.fn H ds).args = ds) (hvs : (s.fn H ds).vars = []) (hb : Below A.heap.size A B)
    (ho : ∀ (j : Nat) (t : TypeId) (r : Value), f.resultTypes[j]? = some t → (v.resultList f.resultTypes.size)[j]? = some r → Value.okWide P B .any 0 t r) :
    s.post enc P f apart fresh handsOn again A args v B := by
  have h1 : ∀ p ∈ ps, p.block < A.heap.size := fun p h => hA.lt p h
  have h2 : ∀ p ∈ ps, (fun b => decide (b < A.heap.size)) p.block = true := fun p h => by simpa using h1 p h
  obtain ⟨p, q, hT, hV, hpq, hz, hn⟩ := hA
  have hq : q = [] := by rw [hvars] at hV; exact hV
  subst hq
  simp only [List.append_nil] at hpq
  subst hpq
  have ha : ∀ sp : Nat → Bool, (∀ x ∈ ps, sp x.block = true) → DataW.TrodAll enc P B 0 sp true f.params.toList args.toList (s.fn H (ds ++ [])).args ps := fun sp hsp => by
    rw [List.append_nil, hargs]
    exact trodAll_stays hl hT hts (fun x hx => hb.same (h1 x hx)) hsp
  have hv : ∀ sp : Nat → Bool, DataW.TrodVars enc P B sp s.vars (s.fn H (ds ++ [])).vars [] := fun sp => by
    rw [List.append_nil, hvs, hvars]; exact rfl
  have hr' : ∀ (b : Nat) (sp : Nat → Bool) (hd : Bool), DataW.TrodAll enc P B b sp hd f.resultTypes.toList (v.resultList f.resultTypes.size) (s.fn H (ds ++ [])).results [] := fun b sp hd => by
    rw [List.append_nil]; exact hr b sp hd
  refine ⟨ds, [], ps, [], ps, [], ⟨ps, [], hT, hV, (List.append_nil _).symm, hz, hn⟩, hr' _ _ _, ha _ h2, hv _, World.keptBut_mono (fun x h => ⟨h, ?_⟩) (hb.frame (· ∈ ps)), fun _ => ?_⟩
  · exact .inr (.inl h)
  · refine ⟨ho, _, _, ([] ++ ps) ++ [], ⟨[] ++ ps, [], trodAll_append (ha _ (fun _ _ => rfl)) (hr' _ _ _), hv _, rfl, ?_, ?_⟩, ?_⟩
    · intro b off h
      have hin : MemPlace.cell b off ∈ ps := by simpa using h
      rw [hb.frozen (h1 _ hin)]
      exact hz b off hin
    · intro h
      have := hn h
      simpa using this
    · intro x h _
      simpa using h
theorem witness_row_shapedU {C : Checked} {os : Os} {f : FuncId} {fn : Func} {s : OpenSpec} {conds : List PathCond} {apart : Bool} {laid : List (String × DataW Unit)} (modest : Bool) (w0 : World) (args : Array Value) (hos : w0.os = os)
    (hsh : (w0.forCall (fun _ _ => 0) ⟨#[], args, []⟩).Shaped C.prog)
    (hok : Input.okWideB C.prog (w0.forCall (fun _ _ => 0) ⟨#[], args, []⟩) f ⟨#[], args, []⟩ = true)
    (hrow : s.preRow enc C.prog fn conds apart laid (w0.forCall (fun _ _ => 0) ⟨#[], args, []⟩).memory args) :
    ∃ (w : World) (tape : Tape) (i : Input), w.os = os ∧ (w.forCall tape i).Shaped C.prog ∧ i.vars = [] ∧ Input.okWide C.prog (w.forCall tape i) .any w.heap.size f i ∧
      s.preRow enc C.prog fn conds apart laid (w.forCall tape i).memory i.args ∧ ({ modest := modest } : Assume).holds C.prog (lone (Frame.enter C.prog f i.args .normal) [] (w.forCall tape i)) :=
  ⟨w0, fun _ _ => 0, ⟨#[], args, []⟩, hos, hsh, (Input.okWide_of_okWideB (base := 0) hok).1, (Input.okWide_of_okWideB hok).2, hrow, by
    simp only [Assume.holds]
    exact ⟨by simp, by simp, fun _ => Modest.zero, by simp, by simp⟩⟩
end
theorem bulk_oneU {H : Type} {d : DataW H} {l : List (DataW H)} (hk : Rows.uptoSmall H l = true) (hm : d ∈ l) : Rows.uptoBulk d ≤ 1048576 := Nat.le_trans (bulk_mem hm) (of_decide_eq_true hk)
end Go.Proofs.YtjkallelniggpaaGreatDoor
