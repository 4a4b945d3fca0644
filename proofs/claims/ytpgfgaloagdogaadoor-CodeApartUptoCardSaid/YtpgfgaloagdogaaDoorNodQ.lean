/-
  suited: may an operation have these items as its parts?
-/
import Derived.Test.YtpgfgaloagdogaaDoorNodP
import Derived.Test.YtpgfgaloagdogaaDoorOl
import Derived.Test.YtpgfgaloagdogaaDoorRl
import Derived.Maps.OwnSet
import Derived.Maps.OwnOps
import Derived.Maps.Views
import Derived.StringKeys
import Derived.BigRegion
namespace Go.Proofs.YtpgfgaloagdogaaDoor
open Go.RowKit Go.Maps Go.WideMaps Word Txt
attribute [local go_sem] setCell_drewN cell?_ext frozen?_ext shape?_ext setCell_ext lt_1' ne_1' en_1' le_1' lt_2' ne_2' en_2' le_2' lt_3' ne_3' en_3' le_3' lt_4' ne_4' en_4' le_4' lt_5' ne_5' en_5' le_5' lt_6' ne_6' en_6' le_6' lt_7' ne_7' en_7' le_7' lt_8' ne_8' en_8' le_8' lt_9' ne_9' en_9' le_9' lt_10' ne_10' en_10' le_10' lt_11' ne_11' en_11' le_11' lt_12' ne_12' en_12' le_12'

/-- a complete item: its place, its depth -/
def itmK : El := { T := 85, S := 82, size := 2, bytes := 16, zero := .agg #[.int .i64 0, .int .i64 0] }
theorem itmK_ok : itmK.Ok Tryd.prog := ⟨Tryd.underlying82, by kernel_rfl, by rfl, by decide, by decide, by decide⟩
def itmE (s : Nat × Nat) : List Value := [.int .i64 s.1, .int .i64 s.2]
theorem itmE_cells : Cells itmK itmE := fun s => ⟨rfl, fun u hu => by
  unfold itmE at hu
  simp at hu
  rcases hu with rfl | rfl <;> rfl⟩
theorem sKeyN : Keyed Tryd.prog 9 := string_keyed Tryd.underlying9
theorem zIntN (w : World) : (zeroValue 3).run Tryd.prog w = .ok (.int .i64 0) w := by kernel_rfl
theorem strKeyN (l : List UInt8) : WideAt.IsKeyLit (Lit.string l) := by first | trivial | exact ⟨_, rfl⟩ | simp [WideAt.IsKeyLit]
theorem dataN_inj {x y : ByteArray} (h : x.data.toList = y.data.toList) : x = y := by
  obtain ⟨⟨a⟩⟩ := x
  obtain ⟨⟨b⟩⟩ := y
  simp at h
  rw [h]
/-- a map that counts the texts of L -/
def CntM (w : World) (b k : Nat) (L : List ByteArray) : Prop := ∃ D : DataW Unit, w.ownsMap Tryd.prog 9 (plainElem Tryd.prog 3) b k D ∧ Tidy D ∧ (∀ x : ByteArray, Maps.has D (.string x.data.toList) = true ↔ x ∈ L) ∧
  (∀ x : ByteArray, ∃ z : Nat, z ≤ k ∧ D.atKey (.string x.data.toList) (.lit (.int .i64 0)) = .lit (.int .i64 (z : Int))) ∧ Maps.size D ≤ L.length ∧ (Maps.size D = L.length ↔ L.Nodup)
theorem CntM.new {w w' : World} {b k : Nat} {L : List ByteArray} (h : CntM w b k L) (hb : Below w.heap.size w w') : CntM w' b k L :=
  h.elim fun D h => ⟨D, h.1.kept (row := none) ⟨hb.os, hb.tape, hb.output, hb.size, fun k hk _ => hb.block k hk⟩ (by simp), h.2⟩
theorem keyN {x : ByteArray} (h : x.size ≤ maxLen) : keyOf Tryd.prog 9 (.string x) = some (.string x.data.toList) := keyOf_string_mk Tryd.underlying9 h
theorem cnt_made (w : World) : CntM (w.alloc (.map #[] 0)) w.heap.size 0 [] :=
  ⟨.map [], World.ownsMap_made _ _ _ _, tidy_empty, fun x => by simp [has_eq], fun x => ⟨0, Nat.le_refl _, rfl⟩, Nat.le_refl _, by simp [size_eq]⟩
theorem cnt_step {D : DataW Unit} {L : List ByteArray} {k : Nat} (hT : Tidy D) (hh : ∀ x : ByteArray, Maps.has D (.string x.data.toList) = true ↔ x ∈ L)
    (ha : ∀ x : ByteArray, ∃ z : Nat, z ≤ k ∧ D.atKey (.string x.data.toList) (.lit (.int .i64 0)) = .lit (.int .i64 (z : Int))) (hs : Maps.size D ≤ L.length) (hn : Maps.size D = L.length ↔ L.Nodup) (x : ByteArray) (z : Nat) (hz : z ≤ k + 1) :
    Tidy (D.put (.string x.data.toList) (.lit (.int .i64 (z : Int)))) ∧ (∀ y : ByteArray, Maps.has (D.put (.string x.data.toList) (.lit (.int .i64 (z : Int)))) (.string y.data.toList) = true ↔ y ∈ L ++ [x]) ∧
    (∀ y : ByteArray, ∃ u : Nat, u ≤ k + 1 ∧ (D.put (.string x.data.toList) (.lit (.int .i64 (z : Int)))).atKey (.string y.data.toList) (.lit (.int .i64 0)) = .lit (.int .i64 (u : Int))) ∧
    Maps.size (D.put (.string x.data.toList) (.lit (.int .i64 (z : Int)))) ≤ (L ++ [x]).length ∧ (Maps.size (D.put (.string x.data.toList) (.lit (.int .i64 (z : Int)))) = (L ++ [x]).length ↔ (L ++ [x]).Nodup) := by
  have hne : ∀ y : ByteArray, y ≠ x → (Lit.string y.data.toList) ≠ Lit.string x.data.toList := fun y e h => e (dataN_inj (by simpa using h))
  refine ⟨hT.put (strKeyN _) _, fun y => ?_, fun y => ?_, ?_⟩
  · by_cases e : y = x
    · subst e
      rw [has_put_same hT.isMap (strKeyN _)]; simp
    · rw [has_put_other (hne y e), hh y]; simp [e]
  · by_cases e : y = x
    · subst e
      exact ⟨z, hz, atKey_put_same hT.isMap (strKeyN _) _ _⟩
    · obtain ⟨u, hu, hat⟩ := ha y
      exact ⟨u, by omega, by rw [atKey_put_other (hne y e)]; exact hat⟩
  · have hsz := size_put (k := .string x.data.toList) hT (.lit (.int .i64 (z : Int)))
    rw [hsz]
    by_cases hin : x ∈ L
    · rw [if_pos ((hh x).2 hin), List.length_append, List.length_singleton]
      refine ⟨by omega, fun h => by omega, fun h => ?_⟩
      exact ((List.nodup_append.1 h).2.2 _ hin _ (by simp) rfl).elim
    · rw [if_neg fun h => hin ((hh x).1 h), List.length_append, List.length_singleton]
      refine ⟨by omega, fun h => ?_, fun h => ?_⟩
      · refine List.nodup_append.2 ⟨hn.1 (by omega), by simp, fun a ha b hb e => ?_⟩
        simp at hb
        subst hb e
        exact hin ha
      · have := hn.2 (List.nodup_append.1 h).1
        omega
section
variable (w : World) {ops : Array Oper} {rest : List Oper} {o : Oper} {a : Act} {Q : Exit → Act → World → Prop}
theorem lookw_cnt (hg : o.guard = none) (mo x : Operand) (hop : o.op = Op.lookup 96 mo x false) {b k : Nat} {L : List ByteArray} (hm : a.eval mo = .map (some b)) (hown : CntM w b k L) {t : ByteArray} (ht : t.size ≤ maxLen) (hx : a.eval x = .string t)
    (hK : ∀ z : Nat, z ≤ k → wpList Tryd.prog ops Q rest (a.put o.dst (.int .i64 (z : Int))) w) : wpList Tryd.prog ops Q (o :: rest) a w := by
  obtain ⟨D, hD, hT, hh, ha, hs, hn⟩ := hown
  obtain ⟨c, hrun, hc, hwc⟩ := hD.lookup_int (t := 96) sKeyN Tryd.underlying96 Tryd.underlying3 (zIntN w) (keyN ht)
  obtain ⟨z, hz, hat⟩ := ha t
  rw [hat] at hc
  have h3 : (z : Int) = c := (Lit.int.inj (DataW.lit.inj hc)).2
  subst h3
  refine wpList_plain hg fun K' hK' => ?_
  unfold Oper.wp
  simp [execOp, hop, hm, hx, hrun, Result.andThen]
  exact hK' _ _ (hK z hz)
theorem put_cnt (hg : o.guard = none) (mo x v : Operand) (hop : o.op = Op.mapUpdate 96 mo x v) {b k : Nat} {L : List ByteArray} (hm : a.eval mo = .map (some b)) (hown : CntM w b k L) (hn : k ≤ 1000000) {t : ByteArray} (ht : t.size ≤ maxLen) (hx : a.eval x = .string t) {z : Int} (u : Nat) (hz : z = (u : Int) + 1) (hu : u ≤ k) (hv : a.eval v = .int .i64 z)
    (hK : ∀ w', CntM w' b (k + 1) (L ++ [t]) → w.grownBy w' (some b) → wpList Tryd.prog ops Q rest (a.put o.dst undef) w') : wpList Tryd.prog ops Q (o :: rest) a w := by
  subst hz
  obtain ⟨D, hD, hT, hh, ha, hs, hnd⟩ := hown
  exact wpList_mapUpdate_in w hg mo x v _ hop 9 3 sKeyN Tryd.underlying96 _ b k D hm hD (by unfold maxLen; omega) _ _ _ hx hv (keyN ht) _ [] (plainElem_int Tryd.underlying3 (WalkArith.wf_i64 (by omega))) fun w' h1 h2 => hK w' ⟨_, h1, by
    have := cnt_step hT hh ha hs hnd t (u + 1) (by omega)
    rwa [Int.natCast_succ] at this⟩ h2.grown
theorem len_cnt (hw : Region.wanted o (yielded ops a.tmps) = true) (x : Operand) (hop : o.op = .call { callee := .builtin .len, args := #[x], argTypes := #[96] }) {b k : Nat} {L : List ByteArray} (hm : a.eval x = .map (some b)) (hown : CntM w b k L)
    (hK : ∀ sz : Nat, sz ≤ L.length → Hid (sz = L.length ↔ L.Nodup) → wpList Tryd.prog ops Q rest (a.put o.dst (.int .i64 (sz : Int))) w) : wpList Tryd.prog ops Q (o :: rest) a w := by
  obtain ⟨D, hD, hT, hh, ha, hs, hnd⟩ := hown
  refine wpList_step fun K' hK' => ?_
  rw [if_pos hw]
  unfold Oper.wp
  simp [execOp, hop, resolve, invoke, builtin, hm, hD.len Tryd.underlying96 o.type, Result.andThen]
  exact hK' _ _ (hK _ hs (Lib.hid hnd))
end
theorem run_mmN (w : World) : (Instr.makeMap 96 none).run Tryd.prog w = .ok (.map (some w.heap.size)) (w.alloc (.map #[] 0)) := by
  simp [Instr.makeMap, go_sem]
/-- the operation at a place, the text -/
def opA (l : List NdD) (i : Nat) : Int := (l[i]?.map (·.op)).getD 0
def txA (l : List NdD) (i : Nat) : ByteArray := (l[i]?.map (·.t)).getD ⟨#[]⟩
/-- have the parts the roles that are wanted? -/
def rolesB (l : List NdD) (op : Int) : Nat → List (Nat × Nat) → Bool
  | _, [] => true
  | j, p :: ps => decide (roleN (opA l p.1) = wantN op j) && rolesB l op (j + 1) ps
def nodupB (L : List ByteArray) : Bool := decide ((L.map fun x => x.data.toList).Nodup)
theorem nodup_iff (L : List ByteArray) : nodupB L = true ↔ L.Nodup := by
  unfold nodupB
  rw [decide_eq_true_iff]
  induction L with
  | nil => simp
  | cons x r ih =>
    rw [List.map_cons, List.nodup_cons, List.nodup_cons, ih]
    refine and_congr_left fun _ => not_congr ?_
    rw [List.mem_map]
    exact ⟨fun ⟨y, hy, e⟩ => dataN_inj e ▸ hy, fun h => ⟨x, h, rfl⟩⟩
def suitedB (l : List NdD) (op : Int) (ps : List (Nat × Nat)) : Bool := rolesB l op 0 ps && (decide (op ≠ 27) || nodupB (ps.map fun p => txA l p.1))
set_option maxRecDepth 100000 in
set_option maxHeartbeats 4000000 in
theorem suited_any (l : List NdD) (op : Int) (ps : List (Nat × Nat)) (n m : Nat) (w : World) (v pv : Value) (hv : RL 8 ndE n w v l) (hp : RL 2 itmE m w pv ps) (hn : n ≤ w.heap.size) (hm : m ≤ w.heap.size) (hps : ps.length ≤ 1000) (hin : ∀ p ∈ ps, p.1 < l.length) (hwf : ∀ x ∈ l, x.Wf) :
    Calls Tryd.prog 49 #[v, .int .i64 op, pv] w fun e w' => e = .returned (.bool (suitedB l op ps)) ∧ Below w.heap.size w w' := by
  have hmm := run_mmN
  have HE0 := Lib.hid (cnt_made w)
  have HB0 := Lib.hid ((Below.refl w.heap.size w).alloc (Nat.le_refl _) (.map #[] 0))
  obtain ⟨p, c, rfl, h2⟩ := hv
  obtain ⟨pp, pc, rfl, h3⟩ := hp
  have H2 := Lib.hid h2
  have H3 := Lib.hid h3
  have HI := Lib.hid hin
  have HWF := Lib.hid hwf
  obtain ⟨len, hlen⟩ : ∃ len, len = l.length := ⟨_, rfl⟩
  obtain ⟨kn, hkn⟩ : ∃ kn, kn = ps.length := ⟨_, rfl⟩
  have HL := Lib.hid hlen
  have HKN := Lib.hid hkn
  rw [← hlen]
  rw [← hkn] at hps ⊢
  have HR := Lib.hid role_any
  have HW := Lib.hid wanted_any
  obtain ⟨R, hR⟩ : ∃ R, R = rolesB l op 0 ps := ⟨_, rfl⟩
  obtain ⟨S, hS⟩ : ∃ S, S = suitedB l op ps := ⟨_, rfl⟩
  have HS := Lib.hid (show S = (R && (decide (op ≠ 27) || nodupB (ps.map fun p => txA l p.1))) by rw [hS, hR]; rfl)
  have HR0 := Lib.hid hR
  rw [← hS]
  clear h2 h3 hin hwf hlen hkn hR hS
  go_enter Tryd.func49, Tryd.ntmps49
  go_wp2
  go_loopw [14] (fun z wr => ∃ k : Nat, z = .int .i64 k ∧ k ≤ kn ∧ Hid (CntM wr w.heap.size k ((ps.take k).map fun p => txA l p.1)) ∧ Hid (Below w.heap.size w wr) ∧ w.heap.size < wr.heap.size ∧ Hid (rolesB l op k (ps.drop k) = R)) (fun z _ => kn - (intOf z).toNat)
  case atStart => exact ⟨0, rfl, Nat.zero_le _, HE0, HB0, by simp, Lib.hid HR0.out.symm⟩
  case round =>
    obtain ⟨k, rfl, hk, hem, hbe, hlt, hro⟩ := hrel
    clear HE0 HB0 hmm HR0
    have HEM := Lib.hid (fun w' (hb : Below wr.heap.size wr w') => hem.out.new hb)
    have HBE := Lib.hid hbe.out
    have hk6 : k ≤ 1000000 := by omega
    have hswr : w.heap.size ≤ wr.heap.size := by omega
    by_cases hkl : k < kn
    · have hki : (k : Int) < (kn : Int) := by omega
      have hk2 : k < ps.length := by rw [← HKN.out]; exact hkl
      obtain ⟨gd, od, rfl, hgd, hcd⟩ := H3.out (by omega)
      obtain ⟨a, d, had⟩ : ∃ a d, ps[k] = (a, d) := ⟨_, _, rfl⟩
      have ha2 : a < l.length := by have := HI.out _ (List.getElem_mem hk2); rw [had] at this; exact this
      have ha3 : a < len := by rw [HL.out]; exact ha2
      have ha4 : (a : Int) < (len : Int) := by omega
      have i0 : wr.cell? ⟨gd, od + k * 2, none⟩ = some (.int .i64 (a : Int)) := by
        rw [hbe.out.cell (p := ⟨gd, _, none⟩) (Nat.lt_of_lt_of_le hgd hm)]
        exact hcd k hk2 0 _ (by rw [had]; rfl)
      have i1 : wr.cell? ⟨gd, od + k * 2 + 1, none⟩ = some (.int .i64 (d : Int)) := by
        rw [hbe.out.cell (p := ⟨gd, _, none⟩) (Nat.lt_of_lt_of_le hgd hm)]
        exact hcd k hk2 1 _ (by rw [had]; rfl)
      obtain ⟨g, o, rfl, hg, hc⟩ := H2.out (by omega)
      have hc2 : ∀ j (h : j < l.length) i u, (ndE l[j])[i]? = some u → wr.cell? ⟨g, o + j * 8 + i, none⟩ = some u := fun j hj i u hu => by
        rw [hbe.out.cell (p := ⟨g, _, none⟩) (Nat.lt_of_lt_of_le hg hn)]; exact hc j hj i u hu
      have hgr : g < wr.heap.size := by omega
      have hgdr : gd < wr.heap.size := by omega
      obtain ⟨oa, ka, ta, na, ca, sa, da, he, x0, x1, x2, x3, x4, x5, x6, x7⟩ := nd_cells hc2 a ha2
      have hta : ta.size ≤ maxLen := by have := (HWF.out _ (List.getElem_mem ha2)).t; rw [he] at this; exact this
      have hoa : opA l a = oa := by unfold opA; rw [List.getElem?_eq_getElem ha2, he]; rfl
      have htx : txA l a = ta := by unfold txA; rw [List.getElem?_eq_getElem ha2, he]; rfl
      have hdr : ps.drop k = (a, d) :: ps.drop (k + 1) := by rw [List.drop_eq_getElem_cons hk2, had]
      have htk : ((ps.take (k + 1)).map fun p => txA l p.1) = ((ps.take k).map fun p => txA l p.1) ++ [ta] := by
        rw [List.take_add_one, List.getElem?_eq_getElem hk2, had]; simp [htx]
      have HTK := Lib.hid htk
      have HRO := Lib.hid (show R = (decide (roleN oa = wantN op k) && rolesB l op (k + 1) (ps.drop (k + 1))) by rw [← hro.out, hdr]; show (decide (roleN (opA l a) = wantN op k) && _) = _; rw [hoa])
      have HR1 := Lib.hid (fun w => HR.out oa w)
      have HW1 := Lib.hid (fun w => HW.out op k w)
      generalize roleN oa = ro at HR1 HRO
      generalize wantN op k = wo at HW1 HRO
      clear hc hc2 hcd he hoa htx hdr htk hro had hem hbe HR HW H2 H3 HI HWF ha2 hk2
      by_cases hrw : ro = wo
      · subst hrw
        have HRO2 := Lib.hid (show rolesB l op (k + 1) (ps.drop (k + 1)) = R by rw [HRO.out]; simp)
        go_wp2_with (first
          | (go_at_call 50; ((with_reducible refine (HR1.out _).mono ?_); rintro e w' ⟨rfl, rfl⟩))
          | (go_at_call 65; ((with_reducible refine (HW1.out _).mono ?_); rintro e w' ⟨rfl, rfl⟩))
          | (at_lookup; refine lookw_cnt _ rfl _ _ rfl rfl (HEM.out _ (by (repeat' (first | (with_reducible exact Below.refl _ _) | (with_reducible assumption) | (with_reducible refine Below.alloc ?_ ?_ _) | (with_reducible refine below_drewN ?_ _) | (with_reducible refine below_drew ?_) | (with_reducible refine below_ext ?_ ?_ _ _) | (with_reducible refine Below.setCell ?_ ?_ _) | (simp; done) | (simp; omega) | omega)))) hta rfl ?_; intro cz hcz; have hcz6 : cz ≤ 1000000 := by omega)
          | (at_mapUpdate; refine put_cnt _ rfl _ _ _ rfl rfl (HEM.out _ (by (repeat' (first | (with_reducible exact Below.refl _ _) | (with_reducible assumption) | (with_reducible refine Below.alloc ?_ ?_ _) | (with_reducible refine below_drewN ?_ _) | (with_reducible refine below_drew ?_) | (with_reducible refine below_ext ?_ ?_ _ _) | (with_reducible refine Below.setCell ?_ ?_ _) | (simp; done) | (simp; omega) | omega)))) hk6 hta rfl cz rfl hcz rfl ?_; intro w3 hm3 hg3; have HB3 := Lib.hid (((HBE.out.trans (by (repeat' (first | (with_reducible exact Below.refl _ _) | (with_reducible assumption) | (with_reducible refine Below.alloc ?_ ?_ _) | (with_reducible refine below_drewN ?_ _) | (with_reducible refine below_drew ?_) | (with_reducible refine below_ext ?_ ?_ _ _) | (with_reducible refine Below.setCell ?_ ?_ _) | (simp; done) | (simp; omega) | omega)))).grown hg3 (by simp; omega) (fun j hj => by cases hj; exact Nat.le_refl _)))))
        have hs3 : w.heap.size < w3.heap.size := Nat.lt_of_lt_of_le hlt (Nat.le_trans (by simp; omega) hg3.size)
        have HM3 := Lib.hid (HTK.out.symm ▸ hm3)
        clear hg3 hm3
        go_roundw
        case rel => exact ⟨k + 1, by go_num, by omega, HM3, HB3, hs3, HRO2⟩
        case measure => simp [intOf]; omega
      · have hrw2 : (ro == wo) = false := beq_eq_false_iff_ne.2 hrw
        have hrw3 : (ro != wo) = true := by unfold bne; rw [hrw2]; rfl
        have HF := Lib.hid (show S = false by rw [HS.out, HRO.out, decide_eq_false hrw]; rfl)
        go_wp2_with (first
          | (go_at_call 50; ((with_reducible refine (HR1.out _).mono ?_); rintro e w' ⟨rfl, rfl⟩))
          | (go_at_call 65; ((with_reducible refine (HW1.out _).mono ?_); rintro e w' ⟨rfl, rfl⟩)))
        go_ret
        exact ⟨by rw [HF.out]; rfl, HBE.out.trans (by (repeat' (first | (with_reducible exact Below.refl _ _) | (with_reducible assumption) | (with_reducible refine Below.alloc ?_ ?_ _) | (with_reducible refine below_drewN ?_ _) | (with_reducible refine below_drew ?_) | (with_reducible refine below_ext ?_ ?_ _ _) | (with_reducible refine Below.setCell ?_ ?_ _) | (simp; done) | (simp; omega) | omega)))⟩
    · obtain rfl : k = kn := by omega
      have hki : ¬ (k : Int) < k := by omega
      have hpk : ps.take k = ps := List.take_of_length_le (by rw [← HKN.out]; exact Nat.le_refl _)
      have hRt : R = true := by rw [← hro.out, List.drop_eq_nil_of_le (by rw [← HKN.out]; exact Nat.le_refl _)]; rfl
      have HS2 := Lib.hid (show S = (decide (op ≠ 27) || nodupB (ps.map fun p => txA l p.1)) by rw [HS.out, hRt]; rfl)
      have HEK := Lib.hid (show CntM wr w.heap.size k (ps.map fun p => txA l p.1) by have := hem.out; rwa [hpk] at this)
      have HLN := Lib.hid (show (ps.map fun p => txA l p.1).length = k by rw [List.length_map, HKN.out])
      clear hpk hRt hem hro hbe HEM
      by_cases h27 : op = 27
      · subst h27
        go_wp2_with (first
          | (at_len; refine len_cnt _ (by first | rfl | (simp [Region.wanted, yielded]; done) | (go_simp; done)) _ rfl rfl (HEK.out.new (by (repeat' (first | (with_reducible exact Below.refl _ _) | (with_reducible assumption) | (with_reducible refine Below.alloc ?_ ?_ _) | (with_reducible refine below_drewN ?_ _) | (with_reducible refine below_drew ?_) | (with_reducible refine below_ext ?_ ?_ _ _) | (with_reducible refine Below.setCell ?_ ?_ _) | (simp; done) | (simp; omega) | omega)))) ?_; intro sz hsz hnd))
        go_ret
        refine ⟨?_, HBE.out.trans (by (repeat' (first | (with_reducible exact Below.refl _ _) | (with_reducible assumption) | (with_reducible refine Below.alloc ?_ ?_ _) | (with_reducible refine below_drewN ?_ _) | (with_reducible refine below_drew ?_) | (with_reducible refine below_ext ?_ ?_ _ _) | (with_reducible refine Below.setCell ?_ ?_ _) | (simp; done) | (simp; omega) | omega)))⟩
        rw [HS2.out]
        have h1 := hnd.out
        rw [HLN.out, ← nodup_iff] at h1
        by_cases hz : sz = k
        · rw [h1.1 hz, hz]; simp
        · have h4 : nodupB (ps.map fun p => txA l p.1) = false := by
            cases h5 : nodupB (ps.map fun p => txA l p.1) with
            | false => rfl
            | true => exact absurd (h1.2 h5) hz
          rw [h4]
          simp
          omega
      · have n27 : (op != 27) = true := by unfold bne; rw [beq_eq_false_iff_ne.2 h27]; rfl
        have HF := Lib.hid (show S = true by rw [HS2.out, decide_eq_true h27]; rfl)
        go_wp2
        go_ret
        exact ⟨by rw [HF.out]; rfl, HBE.out.trans (by (repeat' (first | (with_reducible exact Below.refl _ _) | (with_reducible assumption) | (with_reducible refine Below.alloc ?_ ?_ _) | (with_reducible refine below_drewN ?_ _) | (with_reducible refine below_drew ?_) | (with_reducible refine below_ext ?_ ?_ _ _) | (with_reducible refine Below.setCell ?_ ?_ _) | (simp; done) | (simp; omega) | omega)))⟩
end Go.Proofs.YtpgfgaloagdogaaDoor
