/-
  CodeSound, the law; instructions as an argument out of small bulk.
-/
import Derived.Test.YtpgfgaloagdogaaDoorBq
namespace Go.Proofs.YtpgfgaloagdogaaDoor
open Go.ChangeShapes Go.WideShapes Go.ChangeAt Go.RowKit Go.Joins Go.Deep Num Word Txt
attribute [local go_sem] setCell_drewN cell?_ext frozen?_ext shape?_ext setCell_ext lt_1' ne_1' en_1' le_1' lt_2' ne_2' en_2' le_2' lt_3' ne_3' en_3' le_3' lt_4' ne_4' en_4' le_4' lt_5' ne_5' en_5' le_5' lt_6' ne_6' en_6' le_6' lt_7' ne_7' en_7' le_7' lt_8' ne_8' en_8' le_8' lt_9' ne_9' en_9' le_9' lt_10' ne_10' en_10' le_10' lt_11' ne_11' en_11' le_11' lt_12' ne_12' en_12' le_12'

theorem doc_ge {len : Nat} {fin : Int} : ∀ {r : List (Int × Int)} {i : Nat} {W : Nat → List Vm.St} {most h : Int}, Vm.docR len fin r i W most = some h → 1 ≤ h
  | [], i, W, most, h, e => by
    unfold Vm.docR at e
    split at e
    · injection e with e; omega
    · cases e
  | (op, a) :: r, i, W, most, h, e => by
    unfold Vm.docR at e
    split at e
    · cases e
    · split at e
      · exact doc_ge e
      · cases e
/-- code that is sound goes on as it did where more stands behind it -/
theorem prog_more {len : Nat} {fin : Int} (R : List (Int × Int)) : ∀ {r : List (Int × Int)} {i : Nat} {m : Nat → Option Vm.St} {hi h : Int}, Vm.progR len fin r i m hi = some h → i + r.length = len → (∀ j, len < j → m j = none) →
    ∃ m', Vm.progR (len + 1) fin (r ++ R) i m hi = Vm.progR (len + 1) fin R len m' h ∧ m' len = some (1, fin) ∧ ∀ j, len < j → m' j = none
  | [], i, m, hi, h, e, hl, hm => by
    unfold Vm.progR at e
    split at e
    · rename_i h1
      injection e with e
      subst e
      have hil : i = len := by simpa using hl
      subst hil
      exact ⟨m, rfl, h1, hm⟩
    · cases e
  | (op, a) :: r, i, m, hi, h, e, hl, hm => by
    unfold Vm.progR at e
    split at e
    case h_2 => cases e
    case h_1 t s ht hs =>
    split at e
    case isFalse => cases e
    case isTrue hok =>
    have hl2 : i + 1 + r.length = len := by simp only [List.length_cons] at hl; omega
    have hg : ∀ j ∈ Vm.goals op a i, j ≤ len := fun j hj => by
      rcases Vm.mem_goals.1 hj with ⟨h1, h2⟩ | ⟨h1, h2⟩
      · have := hok.1.2.2 h1
        omega
      · omega
    obtain ⟨m', h1, h2, h3⟩ := prog_more R e hl2 (fun j hj => by
      unfold Vm.put
      rw [if_neg (fun h => by have := hg j h; omega)]
      exact hm j hj)
    refine ⟨m', ?_, h2, h3⟩
    rw [← h1]
    show (match Vm.takes op a, m i with
      | some t, some s => if Vm.okAt (len + 1) op a i t s ∧ Vm.fit m (Vm.goals op a i) (Vm.nxt t s) then Vm.progR (len + 1) fin (r ++ R) (i + 1) (Vm.put m (Vm.goals op a i) (Vm.nxt t s)) (max hi (Vm.nxt t s).1) else none
      | _, _ => none) = _
    rw [ht, hs]
    simp only
    rw [if_pos ⟨⟨hok.1.1, hok.1.2.1, fun hj => by have := hok.1.2.2 hj; omega⟩, hok.2⟩]
/-- what the law asks of code that is sound -/
theorem sound_more {C : List InsD} {tests : Bool} (he : verE (C.map two) tests = 0) (hl : C.length ≤ 598) : C ≠ [] ∧ (verV ((C ++ [iC 8 0]).map two) tests = verV (C.map two) tests ∧ verE ((C ++ [iC 8 0]).map two) tests = 0) ∧ verE ((C ++ [iC 1 0]).map two) tests = 2 := by
  have h6 : ¬ 600 < (C.map two).length := by rw [List.length_map]; omega
  unfold verE at he
  rw [if_neg h6] at he
  cases hO : verO (C.map two) tests with
  | none => rw [hO] at he; cases he
  | some h =>
    have h1 : 1 ≤ h := by unfold verO at hO; exact doc_ge hO
    have hO' := hO
    unfold verO at hO
    rw [← Vm.same_run] at hO
    have hne : C ≠ [] := fun e => by
      subst e
      have h9 : Vm.progR ([] : List (Int × Int)).length (finN tests) [] 0 (Vm.m0 (finN tests)) 0 = some h := hO
      unfold Vm.progR Vm.m0 at h9
      rw [if_pos rfl] at h9
      split at h9
      · rename_i h10
        injection h10 with h10
        injection h10 with h10
        omega
      · cases h9
    have hmore := fun R => prog_more (len := (C.map two).length) R hO (by omega) (fun j hj => by unfold Vm.m0; rw [if_neg (by omega)])
    have hv : ∀ op : Int, verO ((C ++ [iC op 0]).map two) tests = Vm.progR ((C.map two).length + 1) (finN tests) (C.map two ++ [(op, 0)]) 0 (Vm.m0 (finN tests)) 0 := fun op => by
      unfold verO
      rw [← Vm.same_run, List.map_append, List.length_append]; rfl
    have hll : ∀ op : Int, ¬ 600 < ((C ++ [iC op 0]).map two).length := fun op => by rw [List.length_map, List.length_append]; simp only [List.length_cons, List.length_nil]; omega
    refine ⟨hne, ⟨?_, ?_⟩, ?_⟩
    · obtain ⟨m', e1, e2, e3⟩ := hmore [(8, 0)]
      unfold verV
      rw [if_neg (hll 8), if_neg h6, hv, e1, hO', prog_one (p := 1) (q := 1) (t := 0) (u := 0) (by rfl) e2 (by unfold Vm.jmp; omega) (by simp only; omega) (by simp only; unfold finN; split <;> omega) (.inl (e3 _ (by omega)))]
      show (if Vm.put m' _ _ _ = some (1, finN tests) then some _ else none).getD 0 = h
      rw [put_at, if_pos (by simp)]
      show max h _ = h
      simp only
      omega
    · obtain ⟨m', e1, e2, e3⟩ := hmore [(8, 0)]
      unfold verE
      rw [if_neg (hll 8), hv, e1, prog_one (p := 1) (q := 1) (t := 0) (u := 0) (by rfl) e2 (by unfold Vm.jmp; omega) (by simp only; omega) (by simp only; unfold finN; split <;> omega) (.inl (e3 _ (by omega)))]
      show (if (if Vm.put m' _ _ _ = some (1, finN tests) then some _ else none : Option Int).isSome = true then (0 : Int) else 2) = 0
      rw [put_at, if_pos (by simp)]
    · obtain ⟨m', e1, e2, e3⟩ := hmore [(1, 0)]
      unfold verE
      rw [if_neg (hll 1), hv, e1, prog_one (p := 0) (q := 1) (t := 0) (u := 0) (by rfl) e2 (by unfold Vm.jmp; omega) (by simp only; omega) (by simp only; unfold finN; split <;> omega) (.inl (e3 _ (by omega)))]
      show (if (if Vm.put m' _ _ _ = some (1, finN tests) then some _ else none : Option Int).isSome = true then (0 : Int) else 2) = 2
      rw [put_at, if_neg (by simp)]
theorem back_sound {C : List InsD} {tests : Bool} (h : bkE C tests = 0) : verE (C.map two) tests = 0 := by
  unfold bkE at h
  split at h
  · cases h
  · split at h
    · rename_i h1
      obtain ⟨hi, hR⟩ := round_of h1.1
      have := hR.ver.2
      rw [(sameB_iff _ _).1 h1.2] at this
      exact this
    · cases h
section
variable {H : Type} {enc : TypeId × Value → H} {w : World} {spare : Nat → Bool} {held : Bool}
set_option maxRecDepth 100000 in
theorem insw_of_trod {fuel : Nat} {cs : List Value} {x : DataW H × List MemPlace} (h : DataW.trod enc Tryd.prog w 0 spare held fuel 43 cs = some x) (hb : Rows.uptoBulk x.1 ≤ 1048576) : ∃ v : InsD, cs = insE v ∧ v.Wf := by
  obtain ⟨y0, y1, y2, y3, y4, n, rfl, hx, hl, g0, g1, g2, g3, g4⟩ := trod_struct5 Tryd.underlying43 h
  rw [icIns] at hl
  obtain ⟨x0, x1, x2, x3, x4, x5, x6, x7, rfl⟩ := list8 hl
  simp only [icInt, icDec, icStr] at g0 g1 g2 g3 g4
  obtain ⟨op, e0, -, -⟩ := DataW.trod_int Tryd.underlying3 g0
  obtain ⟨a, e1, -, wa⟩ := DataW.trod_int Tryd.underlying3 g1
  obtain ⟨t, e2, hy2, wt⟩ := DataW.trod_string Tryd.underlying9 g2
  obtain ⟨z0, z1, z2, m, -, -, d0, d1, d2⟩ := trod_struct3 Tryd.underlying41 g3
  simp only [icBool, icWide, icInt] at d0 d1 d2
  obtain ⟨u0, u1, m2, -, -, q0, q1⟩ := trod_struct2 Tryd.underlying39 d1
  simp only [icWord] at q0 q1
  obtain ⟨neg, e3, -⟩ := DataW.trod_bool Tryd.underlying4 d0
  obtain ⟨hh, e4, -, wh⟩ := DataW.trod_int Tryd.underlying37 q0
  obtain ⟨ll, e5, -, wl⟩ := DataW.trod_int Tryd.underlying37 q1
  obtain ⟨s, e6, -, -⟩ := DataW.trod_int Tryd.underlying3 d2
  obtain ⟨day, e7, -, -⟩ := DataW.trod_int Tryd.underlying3 g4
  simp at e0 e1 e2 e3 e4 e5 e6 e7
  subst e0 e1 e2 e3 e4 e5 e6 e7
  have hts : t.size ≤ 1048576 := by
    rw [hx] at hb
    have h1 : Rows.uptoBulk y2.1 ≤ Rows.uptoBulkAll [y0.1, y1.1, y2.1, y3.1, y4.1] := nbulk_mem (by simp)
    have h2 : Rows.uptoBulk (DataW.agg [y0.1, y1.1, y2.1, y3.1, y4.1]) = Rows.uptoBulkAll [y0.1, y1.1, y2.1, y3.1, y4.1] + 1 := rfl
    have h3 : Rows.uptoBulk y2.1 = t.data.toList.length + 1 := by rw [hy2]; rfl
    have h4 : t.data.toList.length = t.size := rfl
    omega
  exact ⟨⟨op, a, t, neg, hh, ll, s, day⟩, rfl, ⟨wf_u64N wh, wf_u64N wl, hts, fun _ => wf_i64N wa⟩⟩
set_option maxRecDepth 100000 in
theorem insw_of {r : Reach} {b0 : Nat} {x : Value} {d : DataW H} {p : List MemPlace} (hv : Value.okWide Tryd.prog w r b0 24 x) (h : DataW.Trod enc Tryd.prog w 0 spare held 24 x d p) (hb : Rows.uptoBulk d ≤ 1048576) :
    ∃ L, RL 8 insE w.heap.size w x L ∧ (∀ y ∈ L, y.Wf) ∧ ∀ q k c, x = .slice q k c → k ≤ c := by
  obtain ⟨q, n, c, rfl⟩ := okWide_slice Tryd.underlying24 hv
  obtain ⟨fuel, hf⟩ := h
  rcases DataW.trod_slice Tryd.underlying24 hf with ⟨hcs0, -⟩ | ⟨ad, len, cap, elems, rest, n', hn', hcs0, hd, _, hlc, _, hlen, hel, _, _⟩
  · simp [Value.cells] at hcs0
    obtain ⟨rfl, rfl, rfl⟩ := hcs0
    exact ⟨[], RL.nil _ _ _ _, by simp, fun q k c e => by injection e with _ e2 e3; omega⟩
  · simp [Value.cells] at hcs0
    obtain ⟨rfl, rfl, rfl⟩ := hcs0
    have hbl : Rows.uptoBulkAll (elems.map (·.1)) ≤ 1048576 := by
      have hd1 := congrArg Prod.fst hd
      simp only at hd1
      rw [hd1] at hb
      have : Rows.uptoBulkAll (elems.map (·.1)) + Rows.uptoBulkAll (rest.map (·.1)) + 1 ≤ 1048576 := hb
      omega
    have hget : ∀ i, i < n → ∃ v : InsD, ((ad.add (i * 8)).spot = none ∧ ∀ j, j < 8 → w.cell? ((ad.add (i * 8)).add j) = (insE v)[j]?) ∧ v.Wf := by
      intro i hi
      have h1 := hel i hi
      rw [icIns] at h1
      have hie : i < elems.length := by omega
      rw [List.getElem?_eq_getElem hie] at h1
      obtain ⟨cs', hc', ht'⟩ := Option.bind_eq_some_iff.1 h1
      have hm : elems[i].1 ∈ elems.map (·.1) := List.mem_map_of_mem (List.getElem_mem hie)
      obtain ⟨_, hc8, hcell⟩ := World.cells?_some hc'
      obtain ⟨v, rfl, hw⟩ := insw_of_trod ht' (Nat.le_trans (nbulk_mem hm) hbl)
      have hz0 : w.cell? (ad.add (i * 8)) = some (.int .i64 v.op) := by have := hcell 0 (by omega); simpa [Addr.add, insE] using this
      exact ⟨v, ⟨World.cell?_spot hz0, hcell⟩, hw⟩
    obtain ⟨l, hll, hp⟩ := ilist_of _ n hget
    refine ⟨l, ⟨some ad, c, by rw [hll], fun h0 => ?_⟩, fun y hy => ?_, fun q k c e => by injection e with _ e2 e3; omega⟩
    · obtain ⟨⟨hsp, hc0⟩, -⟩ := hp 0 h0
      have ha : ad.add (0 * 8) = ad := by simp [Addr.add]
      rw [ha] at hc0 hsp
      have h00 := hc0 0 (by omega)
      obtain ⟨g, o, sp⟩ := ad
      simp only at hsp
      subst hsp
      have hadd : ∀ i j, ((⟨g, o, none⟩ : Addr).add (i * 8)).add j = ⟨g, o + i * 8 + j, none⟩ := by
        intro i j
        by_cases hi0 : i = 0
        · subst hi0
          by_cases hj0 : j = 0
          · subst hj0; rfl
          · simp [Addr.add, hj0]
        · have hi8 : ¬ i * 8 = 0 := by omega
          by_cases hj0 : j = 0
          · subst hj0; simp [Addr.add, hi8]
          · simp [Addr.add, hi8, hj0]
      refine ⟨g, o, rfl, World.block_lt_of_cell? w ⟨g, o, none⟩ (u := .int .i64 l[0].op) (by simpa [Addr.add, insE] using h00), fun j hj i u hu => ?_⟩
      have hi8 : i < 8 := by
        have := (List.getElem?_eq_some_iff.1 hu).1
        simpa [insE] using this
      rw [← hadd, (hp j hj).1.2 i hi8]
      exact hu
    · obtain ⟨i, hi, rfl⟩ := List.getElem_of_mem hy
      exact (hp i hi).2
end
set_option maxRecDepth 100000 in
set_option maxHeartbeats 8000000 in
theorem codeSound_law (C : List InsD) (tests : Bool) (n : Nat) (w : World) (v : Value) (hv : RL 8 insE n w v C) (hn : n ≤ w.heap.size) (hwf : ∀ i ∈ C, i.Wf) (hT : Tens w) (hU : Tabs w) :
    Calls Tryd.prog 6 #[v, .bool tests] w fun e w' => e = .returned (.bool true) ∧ Below w.heap.size w w' := by
  have HKN := Lib.hid (codknown_any w)
  have HVE := Lib.hid (fun w' (hb : Below w.heap.size w w') => verify_any C tests n w' v (hv.keep (hb.mono hn)) (Nat.le_trans hn hb.size))
  have HVM := Lib.hid (fun c w' v' (hr : RL 8 insE w'.heap.size w' v' (C ++ [c])) => verify_any (C ++ [c]) tests _ w' v' hr (Nat.le_refl _))
  have HBK := Lib.hid (fun w' (hb : Below w.heap.size w w') => cback_any (tests := tests) (hv.keep (hb.mono hn)) (Nat.le_trans hn hb.size) hwf (hT.below hb) (hU.below hb))
  unfold BkQ at HBK
  have hbs := back_sound (C := C) (tests := tests)
  have hsm := sound_more (C := C) (tests := tests)
  obtain ⟨F, hF⟩ : ∃ F, F = bkE C tests := ⟨_, rfl⟩
  obtain ⟨E, hE⟩ : ∃ E, E = verE (C.map two) tests := ⟨_, rfl⟩
  obtain ⟨h, hh⟩ : ∃ h, h = verV (C.map two) tests := ⟨_, rfl⟩
  rw [← hF] at HBK hbs
  rw [← hE] at HVE hbs hsm
  rw [← hh] at HVE hsm
  have H2 := Lib.hid (show 0 < C.length → ∃ p g o c, v = .slice p C.length c ∧ p = some ⟨g, o, none⟩ ∧ g < n ∧ ∀ j (h : j < C.length) i u, (insE C[j])[i]? = some u → w.cell? ⟨g, o + j * 8 + i, none⟩ = some u from fun h0 => by
    obtain ⟨p, c, e, h2⟩ := hv
    obtain ⟨g, o, e2, hg, hc⟩ := h2 h0
    exact ⟨p, g, o, c, e, e2, hg, hc⟩)
  obtain ⟨p, c, rfl, -⟩ := hv
  obtain ⟨len, hlen⟩ : ∃ len, len = C.length := ⟨_, rfl⟩
  have HL := Lib.hid hlen.symm
  rw [← hlen] at HVE HBK hsm ⊢
  clear hF hE hh hT hU hwf hlen
  by_cases hE0 : E = 0
  · subst hE0
    by_cases h598 : 598 < len
    · have h598i : (598 : Int) < (len : Int) := by omega
      clear hsm hbs
      go_enter Tryd.func6, Tryd.ntmps6
      go_wp2_with (first
        | (go_at_call 8; (with_reducible refine (HKN.out).mono ?_); rintro e w1 ⟨rfl, hb1⟩; have HB1 := Lib.hid hb1; clear hb1)
        | (go_at_call 16; (with_reducible refine (HVE.out _ HB1.out).mono ?_); rintro e w2 ⟨rfl, hb2⟩; have HB2 := Lib.hid (HB1.out.trans (hb2.mono HB1.out.size)); clear hb2)
        | (go_at_call 13; (with_reducible refine (HBK.out _ HB2.out).mono ?_); rintro e w3 ⟨hb3, v3, rfl, -⟩; have HB3 := Lib.hid (HB2.out.trans (hb3.mono HB2.out.size)); clear hb3))
      all_goals
        go_ret
        exact ⟨rfl, HB3.out⟩
    · have h598i : ¬ (598 : Int) < (len : Int) := by omega
      obtain ⟨hne, ⟨hv8, he8⟩, he1⟩ := hsm rfl (by omega)
      have hpos : 0 < len := by rw [← HL.out]; exact List.length_pos_iff.2 hne
      obtain ⟨p', g, o, c', e1, rfl, hg, hc⟩ := H2.out (by rw [HL.out]; exact hpos)
      injection e1 with e1 _ e3
      subst e1 e3
      have hgr : g < w.heap.size := by omega
      have HC := Lib.hid (show ∀ w', Below w.heap.size w w' → ∀ j (h : j < C.length) i u, (insE C[j])[i]? = some u → w'.cell? ⟨g, o + j * isK.size + i, none⟩ = some u from fun w' hb j hj i u hu => by
        rw [hb.cell (p := ⟨g, _, none⟩) hgr]; exact hc j hj i u hu)
      have HV8 := Lib.hid (HVM.out (iC 8 0))
      have HV1 := Lib.hid (HVM.out (iC 1 0))
      rw [hv8, he8] at HV8
      rw [he1] at HV1
      generalize verV ((C ++ [iC 1 0]).map two) tests = vq at HV1
      have HN1 := Lib.hid (show ([] : List InsD).length + len = len from Nat.zero_add len)
      have HN2 := Lib.hid (show ([] ++ C).length + 1 = len + 1 by rw [List.nil_append, HL.out])
      have hlb : len ≤ 598 := by omega
      clear hsm hbs hc hne hv8 he8 he1 HVM hn
      go_enter Tryd.func6, Tryd.ntmps6
      go_wp2_with (first
        | (go_at_call 8; (with_reducible refine (HKN.out).mono ?_); rintro e w1 ⟨rfl, hb1⟩; have HB1 := Lib.hid hb1; clear hb1)
        | (go_at_call 16; (with_reducible refine (HVE.out _ HB1.out).mono ?_); rintro e w2 ⟨rfl, hb2⟩; have HB2 := Lib.hid (HB1.out.trans (hb2.mono HB1.out.size)); clear hb2)
        | (go_at_call 13; (with_reducible refine (HBK.out _ HB2.out).mono ?_); rintro e w3 ⟨hb3, v3, rfl, -⟩; have HB3 := Lib.hid (HB2.out.trans (hb3.mono HB2.out.size)); clear hb3)
        | (at_builtin; refine append_list isK_ok isE_cells rfl _ _ rfl rfl _ (OL.lit0 isK insE (Nat.le_refl w3.heap.size)) HL.out HN1.out rfl (HC.out _ (HB3.out.alloc HB3.out.size _)) hpos (by omega) (by simp) ?_; intro g4 cap4 w4 hob hoth hat hg4 hsz4; have HB34 := Lib.hid (OL.below (w0 := w3) (OL.lit0 isK insE (Nat.le_refl w3.heap.size)) ((Below.refl w3.heap.size w3).alloc (Nat.le_refl _) _) (Nat.le_refl _) hoth); have HO4 := Lib.hid hob; clear hob hoth hat hg4 hsz4)
        | (at_builtin; refine append_elem isK_ok isE_cells rfl _ _ rfl rfl _ (iC 8 0) rfl HO4.out HN2.out (by simp [Act.eval]) (by omega) (HB34.out.size) ?_; intro g5 cap5 w5 hob hoth hat hg5 hsz5; have HB5 := Lib.hid (HB3.out.trans ((OL.below HO4.out HB34.out (Nat.le_refl _) hoth).mono HB3.out.size)); have HR5 := Lib.hid (show RL 8 insE w5.heap.size w5 _ (C ++ [iC 8 0]) from ol_rl isE_cells hob); clear hob hoth hat hg5 hsz5)
        | (go_at_call 16; (with_reducible refine (HV8.out _ _ HR5.out).mono ?_); rintro e w6 ⟨rfl, hb6⟩; have HB6 := Lib.hid (HB5.out.trans (hb6.mono HB5.out.size)); clear hb6)
        | (at_builtin; refine append_list isK_ok isE_cells rfl _ _ rfl rfl _ (OL.lit0 isK insE (Nat.le_refl w6.heap.size)) HL.out HN1.out rfl (HC.out _ (HB6.out.alloc HB6.out.size _)) hpos (by omega) (by simp) ?_; intro g7 cap7 w7 hob hoth hat hg7 hsz7; have HB67 := Lib.hid (OL.below (w0 := w6) (OL.lit0 isK insE (Nat.le_refl w6.heap.size)) ((Below.refl w6.heap.size w6).alloc (Nat.le_refl _) _) (Nat.le_refl _) hoth); have HO7 := Lib.hid hob; clear hob hoth hat hg7 hsz7)
        | (at_builtin; refine append_elem isK_ok isE_cells rfl _ _ rfl rfl _ (iC 1 0) rfl HO7.out HN2.out (by simp [Act.eval]) (by omega) (HB67.out.size) ?_; intro g8 cap8 w8 hob hoth hat hg8 hsz8; have HB8 := Lib.hid (HB6.out.trans ((OL.below HO7.out HB67.out (Nat.le_refl _) hoth).mono HB6.out.size)); have HR8 := Lib.hid (show RL 8 insE w8.heap.size w8 _ (C ++ [iC 1 0]) from ol_rl isE_cells hob); clear hob hoth hat hg8 hsz8)
        | (go_at_call 16; (with_reducible refine (HV1.out _ _ HR8.out).mono ?_); rintro e w9 ⟨rfl, hb9⟩; have HB9 := Lib.hid (HB8.out.trans (hb9.mono HB8.out.size)); clear hb9))
      all_goals
        go_ret
        exact ⟨rfl, HB9.out⟩
  · have hneb : (E != 0) = true := bne_iff_ne.2 hE0
    have hF0 : (F == 0) = false := beq_eq_false_iff_ne.2 (fun hf => hE0 (hbs hf))
    clear hsm hbs
    go_enter Tryd.func6, Tryd.ntmps6
    go_wp2_with (first
      | (go_at_call 8; (with_reducible refine (HKN.out).mono ?_); rintro e w1 ⟨rfl, hb1⟩; have HB1 := Lib.hid hb1; clear hb1)
      | (go_at_call 16; (with_reducible refine (HVE.out _ HB1.out).mono ?_); rintro e w2 ⟨rfl, hb2⟩; have HB2 := Lib.hid (HB1.out.trans (hb2.mono HB1.out.size)); clear hb2)
      | (go_at_call 13; (with_reducible refine (HBK.out _ HB2.out).mono ?_); rintro e w3 ⟨hb3, v3, rfl, -⟩; have HB3 := Lib.hid (HB2.out.trans (hb3.mono HB2.out.size)); clear hb3))
    go_ret
    exact ⟨rfl, HB3.out⟩
end Go.Proofs.YtpgfgaloagdogaaDoor
