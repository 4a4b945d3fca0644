/-
  A scope with several labels: what holds at every jump to each of them, and a measure that falls from jump to jump.
  The program's way back, walked: one node; the machine.
  The program's way back, walked: the machine.
-/
import Derived.Test.YtpgfgaloagdogaaDoorProg
import Derived.RowKit
import Derived.Scope
import Derived.WalkMore
import Derived.ScopeJumps
import Derived.Test.YtpgfgaloagdogaaDoorBo
import Derived.Test.YtpgfgaloagdogaaDoorBk
import Derived.Deep.RegionHeld3
import Derived.BigRegion
namespace Go.Proofs.YtpgfgaloagdogaaDoor
open Go.RowKit

/-- as Q; by a goto: what the label asks -/
def toLabel (J : Nat → Act → World → Prop) (Q : Exit → Act → World → Prop) : Exit → Act → World → Prop
  | .goto l, a, w => J l a w
  | e, a, w => Q e a w
section
variable {J : Nat → Act → World → Prop} {Q : Exit → Act → World → Prop} {a : Act} {w : World}
@[go_sem] theorem toLabel_goto (l : Nat) : toLabel J Q (.goto l) a w = J l a w := rfl
@[go_sem] theorem toLabel_normal : toLabel J Q .normal a w = Q .normal a w := rfl
@[go_sem] theorem toLabel_exit (id : Nat) : toLabel J Q (.exit id) a w = Q (.exit id) a w := rfl
@[go_sem] theorem toLabel_ret : toLabel J Q .ret a w = Q .ret a w := rfl
@[go_sem] theorem toLabel_panic (ch : List PanicEntry) : toLabel J Q (.panic ch) a w = Q (.panic ch) a w := rfl
end
theorem wp_labels {P : Program} {a : Act} {w : World} {Q : Exit → Act → World → Prop} {c : Code} (J : Nat → Act → World → Prop) (μ : Nat → Act → World → Nat)
    (first : c.wp P (toLabel J Q) a w)
    (pass : ∀ l a w, J l a w → ∃ rest, findLabel c l = some rest ∧ rest.wp P (toLabel (fun l' a' w' => J l' a' w' ∧ μ l' a' w' < μ l a w) Q) a w) : (Code.scope c).wp P Q a w := by
  intro b k cs
  have hg : ∀ l rest, findLabel c l = some rest → gotoIn l (.inScope c :: k) = some (.code rest :: .inScope c :: k) := fun l rest h => by simp [gotoIn, h]
  have key : ∀ n l a w rest, μ l a w = n → J l a w → findLabel c l = some rest → ∃ e a' w', Q e a' w' ∧ Arrives P (lone (b.at a (.code rest :: .inScope c :: k)) cs w) b k cs e a' w' := by
    intro n
    induction n using Nat.strongRecOn with
    | _ n ih =>
      intro l a w rest hn hJ hr
      obtain ⟨r2, hr2, hp⟩ := pass l a w hJ
      obtain rfl : r2 = rest := Option.some.inj (hr2.symm.trans hr)
      obtain ⟨e, a₁, w₁, hq, harr⟩ := hp b (.inScope c :: k) cs
      cases e with
      | normal => exact ⟨.normal, a₁, w₁, hq, Steps.trans harr (.one step_inScope)⟩
      | exit id => exact ⟨.exit id, a₁, w₁, hq, fun k' hk => harr k' (by simp [exitTo, hk])⟩
      | goto l' =>
        obtain ⟨hJ', hlt⟩ := hq
        obtain ⟨r3, hr3, _⟩ := pass l' a₁ w₁ hJ'
        obtain ⟨e₂, a₂, w₂, hq₂, harr₂⟩ := ih _ (by omega) l' a₁ w₁ r3 rfl hJ' hr3
        exact ⟨e₂, a₂, w₂, hq₂, .of_steps (harr _ (hg _ _ hr3)) harr₂⟩
      | ret => exact ⟨_, a₁, w₁, hq, harr⟩
      | panic ch => exact ⟨_, a₁, w₁, hq, harr⟩
      | outgrown => exact ⟨_, a₁, w₁, hq, harr⟩
  obtain ⟨e, a₁, w₁, hq, harr⟩ := first b (.inScope c :: k) cs
  cases e with
  | normal => exact ⟨.normal, a₁, w₁, hq, .head step_scope (Steps.trans harr (.one step_inScope))⟩
  | exit id => exact ⟨.exit id, a₁, w₁, hq, fun k' hk => .head step_scope (harr k' (by simp [exitTo, hk]))⟩
  | goto l' =>
    obtain ⟨r3, hr3, _⟩ := pass l' a₁ w₁ hq
    obtain ⟨e₂, a₂, w₂, hq₂, harr₂⟩ := key _ l' a₁ w₁ r3 rfl hq hr3
    exact ⟨e₂, a₂, w₂, hq₂, .of_steps (.head step_scope (harr _ (hg _ _ hr3))) harr₂⟩
  | ret => exact ⟨_, a₁, w₁, hq, .of_steps (.one step_scope) harr⟩
  | panic ch => exact ⟨_, a₁, w₁, hq, .of_steps (.one step_scope) harr⟩
  | outgrown => exact ⟨_, a₁, w₁, hq, .of_steps (.one step_scope) harr⟩
theorem toLabel_mono {J J' : Nat → Act → World → Prop} {Q : Exit → Act → World → Prop} (h : ∀ l a w, J l a w → J' l a w) : ∀ e a w, toLabel J Q e a w → toLabel J' Q e a w := by
  intro e a w hq
  cases e <;> first | exact h _ _ _ hq | exact hq
/-- the passes first: the way to the first label may use them; what stands behind a label is named -/
theorem wp_labels2 {P : Program} {a : Act} {w : World} {Q : Exit → Act → World → Prop} {c : Code} (J : Nat → Act → World → Prop) (μ : Nat → Act → World → Nat)
    (pass : ∀ l a w, J l a w → ∃ rest, findLabel c l = some (.seq .skip rest) ∧ rest.wp P (toLabel (fun l' a' w' => J l' a' w' ∧ μ l' a' w' < μ l a w) Q) a w)
    (first : (∀ l a w, J l a w → ∀ rest, findLabel c l = some (.seq .skip rest) → rest.wp P (toLabel J Q) a w) → c.wp P (toLabel J Q) a w) : (Code.scope c).wp P Q a w :=
  wp_labels J μ (first fun l a w hJ rest hr => by
    obtain ⟨r, hr2, hw⟩ := pass l a w hJ
    have e := Option.some.inj (hr2.symm.trans hr)
    injection e with _ e2
    subst e2
    exact Code.wp_mono (toLabel_mono fun _ _ _ h => h.1) hw) fun l a w hJ => by
      obtain ⟨r, hr, hw⟩ := pass l a w hJ
      exact ⟨_, hr, wp_seq (wp_skip hw)⟩
end Go.Proofs.YtpgfgaloagdogaaDoor
namespace Go.Proofs.YtpgfgaloagdogaaDoor
open Go.RowKit Num Word Txt
attribute [local go_sem] setCell_drewN cell?_ext frozen?_ext shape?_ext setCell_ext lt_1' ne_1' en_1' le_1' lt_2' ne_2' en_2' le_2' lt_3' ne_3' en_3' le_3' lt_4' ne_4' en_4' le_4' lt_5' ne_5' en_5' le_5' lt_6' ne_6' en_6' le_6' lt_7' ne_7' en_7' le_7' lt_8' ne_8' en_8' le_8' lt_9' ne_9' en_9' le_9' lt_10' ne_10' en_10' le_10' lt_11' ne_11' en_11' le_11' lt_12' ne_12' en_12' le_12'

/-- an instruction that a program may hold -/
structure InsD.Wf (i : InsD) : Prop where
  h : 0 ≤ i.h ∧ i.h < 18446744073709551616
  l : 0 ≤ i.l ∧ i.l < 18446744073709551616
  t : i.t.size ≤ 1048576
  a : Vm.cnt i.op → -9223372036854775808 ≤ i.a ∧ i.a < 9223372036854775808
theorem nodI_val {i : InsD} (h : i.Wf) : NdV (nodI i) = NodV i.op ((offN i.op i.a).getD 0) i.t i.neg i.h i.l i.s i.day := by
  obtain ⟨h1, h2⟩ := h.h
  obtain ⟨h3, h4⟩ := h.l
  have e1 : (hi (i.h.toNat * 18446744073709551616 + i.l.toNat) : Int) = i.h := by unfold hi; omega
  have e2 : (lo (i.h.toNat * 18446744073709551616 + i.l.toNat) : Int) = i.l := by unfold lo; omega
  show NodV _ _ _ _ (hi _ : Int) (lo _ : Int) _ _ = _
  unfold nodI
  simp only
  rw [e1, e2]
set_option maxRecDepth 100000 in
set_option maxHeartbeats 8000000 in
theorem codnode_any (i : InsD) (hw : i.Wf) (w : World) : Calls Tryd.prog 37 #[InV i] w fun e w' => e = .returned (NdV (nodI i)) ∧ Below w.heap.size w w' := by
  rw [nodI_val hw]
  obtain ⟨op, a, t, neg, ha, la, s, day⟩ := i
  have ht := hw.t
  simp only at ht ⊢
  have HCL := Lib.hid (fun w => codClone_any t (by omega) w)
  have HPO := Lib.hid (fun w => pops_any op a t neg ha la s day w)
  generalize (offN op a).getD 0 = kk at HPO ⊢
  generalize (offN op a).isSome = kb at HPO
  clear ht hw
  go_enter Tryd.func37, Tryd.ntmps37
  go_wp2_with (first | (go_at_call 54; ((with_reducible refine (HPO.out _).mono ?_); rintro e w1 ⟨rfl, hb1⟩; obtain ⟨osP, dP, rfl⟩ := ext_of_below hb1; clear hb1)))
  go_region_held3 (fun w' => w'.cell? ⟨w.heap.size, 0, none⟩ = some (.int .i64 op) ∧ w'.cell? ⟨w.heap.size, 2, none⟩ = some (.string t) ∧ w'.cell? ⟨w.heap.size, 3, none⟩ = some (.bool neg) ∧ w'.cell? ⟨w.heap.size, 4, none⟩ = some (.int .u64 ha) ∧ w'.cell? ⟨w.heap.size, 5, none⟩ = some (.int .u64 la) ∧ w'.cell? ⟨w.heap.size, 6, none⟩ = some (.int .i64 s) ∧ w'.cell? ⟨w.heap.size, 7, none⟩ = some (.int .i64 day)) (simp [go_sem]) (first
    | (go_at_call 52; ((with_reducible refine (HCL.out _).mono ?_); rintro e w1 ⟨rfl, hb1⟩; obtain ⟨osC, dC, rfl⟩ := ext_of_below hb1; clear hb1)))
  all_goals
    go_wp2
    go_returns
    exact ⟨rfl, by (repeat' (first | (with_reducible exact Below.refl _ _) | (with_reducible assumption) | (with_reducible refine Below.alloc ?_ ?_ _) | (with_reducible refine below_drewN ?_ _) | (with_reducible refine below_drew ?_) | (with_reducible refine below_ext ?_ ?_ _ _) | (with_reducible refine Below.setCell ?_ ?_ _) | (simp; done) | (simp; omega) | omega))⟩
/-- a list of nodes of the call's own -/
def ndK : El := { T := 45, S := 22, size := 8, bytes := 72, zero := NodV 0 0 ⟨#[]⟩ false 0 0 0 0 }
theorem ndK_ok : ndK.Ok Tryd.prog := ⟨Tryd.underlying22, by kernel_rfl, by rfl, by decide, by decide, by decide⟩
theorem ndE_cells : Cells ndK ndE := fun s => ⟨rfl, fun u hu => by
  unfold ndE at hu
  simp at hu
  rcases hu with rfl | rfl | rfl | rfl | rfl | rfl | rfl | rfl <;> rfl⟩
def inZ (e : Int) : List Value := [.int .i64 e]
theorem inZ_cells : Cells inK inZ := fun s => ⟨rfl, fun u hu => by
  unfold inZ at hu
  simp at hu
  subst hu; rfl⟩
/-- nodes and ends in memory -/
structure DM (w wr : World) (x y : Value) (ns : List NdD) (E : List Int) : Prop where
  nodes : OL ndK ndE w.heap.size wr x ns
  ends : OL inK inZ w.heap.size wr y E.reverse
  bel : Below w.heap.size w wr
section
variable {w wr w' w2 : World} {x y x2 y2 : Value} {ns ns2 : List NdD} {E E2 : List Int}
theorem apartN {B B2 : Nat} {l2 : List Int} (h1 : OL ndK ndE B wr x ns) (h2 : OL inK inZ B2 wr y l2) : ∀ k, x.ownBlock = some k → y.ownBlock ≠ some k := fun k e1 e2 => by
  rcases h1.2 with ⟨rfl, _⟩ | ⟨g, c, cur, rfl, _, hg, _⟩
  · cases e1
  · rcases h2.2 with ⟨rfl, _⟩ | ⟨g2, c2, cur2, rfl, _, hg2, _⟩
    · cases e2
    · obtain rfl : g = k := Option.some.inj e1
      obtain rfl : g2 = g := Option.some.inj e2
      rw [hg] at hg2
      injection hg2 with hg2
      injection hg2 with _ hg2 _
      exact absurd hg2 (by decide)
theorem DM.new (h : DM w wr x y ns E) (hb : Below wr.heap.size wr w') : DM w w' x y ns E :=
  ⟨OL.new h.nodes hb, OL.new h.ends hb, h.bel.trans (hb.mono h.bel.size)⟩
theorem DM.setNodes (h : DM w wr x y ns E) (ho : Ot (fun k => x.ownBlock = some k) wr w2) (hx : OL ndK ndE w.heap.size w2 x2 ns2) : DM w w2 x2 y ns2 E :=
  ⟨hx, OL.kept h.ends ho (fun k e1 e2 => apartN h.nodes h.ends k e2 e1), OL.below h.nodes h.bel (Nat.le_refl _) ho⟩
theorem DM.setEnds (h : DM w wr x y ns E) (ho : Ot (fun k => y.ownBlock = some k) wr w2) (hy : OL inK inZ w.heap.size w2 y2 E2.reverse) : DM w w2 x y2 ns E2 :=
  ⟨OL.kept h.nodes ho (fun k e1 e2 => apartN h.nodes h.ends k e1 e2), hy, OL.below h.ends h.bel (Nat.le_refl _) ho⟩
end
theorem flush_ne {at_ : Nat} {E : List Int} (h : ∀ e ∈ E.head?, e ≠ (at_ : Int)) (ns : List NdD) : flushE at_ E ns = (E, ns) := by
  cases E with
  | nil => rfl
  | cons e r =>
    show (if e = (at_ : Int) then _ else _) = _
    rw [if_neg (h e rfl)]
/-- an instruction in a block of its own -/
def IB8 (w : World) (b : Nat) (op a : Int) (t : ByteArray) (neg : Bool) (ha la s day : Int) : Prop := b < w.heap.size ∧ w.cell? ⟨b, 0, none⟩ = some (.int .i64 op) ∧ w.cell? ⟨b, 1, none⟩ = some (.int .i64 a) ∧ w.cell? ⟨b, 2, none⟩ = some (.string t) ∧ w.cell? ⟨b, 3, none⟩ = some (.bool neg) ∧
  w.cell? ⟨b, 4, none⟩ = some (.int .u64 ha) ∧ w.cell? ⟨b, 5, none⟩ = some (.int .u64 la) ∧ w.cell? ⟨b, 6, none⟩ = some (.int .i64 s) ∧ w.cell? ⟨b, 7, none⟩ = some (.int .i64 day)
end Go.Proofs.YtpgfgaloagdogaaDoor
namespace Go.Proofs.YtpgfgaloagdogaaDoor
open Go.RowKit Num Word Txt
attribute [local go_sem] setCell_drewN cell?_ext frozen?_ext shape?_ext setCell_ext lt_1' ne_1' en_1' le_1' lt_2' ne_2' en_2' le_2' lt_3' ne_3' en_3' le_3' lt_4' ne_4' en_4' le_4' lt_5' ne_5' en_5' le_5' lt_6' ne_6' en_6' le_6' lt_7' ne_7' en_7' le_7' lt_8' ne_8' en_8' le_8' lt_9' ne_9' en_9' le_9' lt_10' ne_10' en_10' le_10' lt_11' ne_11' en_11' le_11' lt_12' ne_12' en_12' le_12'

def slLen : Value → Nat
  | .slice _ n _ => n
  | _ => 0
/-- how far it is to the end -/
def farD (len : Nat) (a : Act) : Nat := 2 * (len - (intOf (a.tmps.getD 5 undef)).toNat) + slLen (a.tmps.getD 4 undef)
/-- where the machine stands -/
def JD (C : List InsD) (R : List NdD) (w : World) (p : Option Addr) (len c : Nat) (l : Nat) (a' : Act) (wr : World) : Prop :=
  ∃ (k : Nat) (x y : Value) (ns : List NdD) (E : List Int) (u1 u2 u6 u7 u8 u9 u10 u11 u12 u13 u14 u15 u16 u17 u18 u19 u20 u21 u22 u23 u24 u25 u26 u27 u28 u29 u30 u31 u32 u33 u34 u35 u36 u37 u38 u39 u40 u41 u42 u43 u44 u45 u46 u47 u48 u49 u50 u51 u52 u53 u54 u55 u56 u57 u58 u59 u60 u61 u62 : Value), a' = { tmps := #[.slice p len c, u1, u2, x, y, .int .i64 (k : Int), u6, u7, u8, u9, u10, u11, u12, u13, u14, u15, u16, u17, u18, u19, u20, u21, u22, u23, u24, u25, u26, u27, u28, u29, u30, u31, u32, u33, u34, u35, u36, u37, u38, u39, u40, u41, u42, u43, u44, u45, u46, u47, u48, u49, u50, u51, u52, u53, u54, u55, u56, u57, u58, u59, u60, u61, u62], defers := [] } ∧ l = 0 ∧ k ≤ len ∧ ns.length + E.length ≤ k ∧ Hid (DM w wr x y ns E) ∧ Hid (decP k (C.drop k) E ns = R)
set_option maxRecDepth 100000 in
set_option maxHeartbeats 16000000 in
theorem decompile_any {C : List InsD} (n : Nat) (w : World) (v : Value) (hv : RL 8 insE n w v C) (hn : n ≤ w.heap.size) (hl : C.length ≤ 600) (hwf : ∀ i ∈ C, i.Wf) :
    Calls Tryd.prog 22 #[v] w fun e w' => ∃ v', e = .returned v' ∧ OL ndK ndE w.heap.size w' v' (decP 0 C [] []) ∧ Below w.heap.size w w' := by
  obtain ⟨p, c, rfl, h2⟩ := hv
  have H2 := Lib.hid h2
  have HWF := Lib.hid hwf
  obtain ⟨len, hlen⟩ : ∃ len, len = C.length := ⟨_, rfl⟩
  have HL := Lib.hid hlen
  obtain ⟨R, hR⟩ : ∃ R, R = decP 0 C [] [] := ⟨_, rfl⟩
  have HR0 := Lib.hid (show decP 0 (C.drop 0) [] [] = R by rw [List.drop_zero, hR])
  have HD0 := Lib.hid (show DM w w (.slice none 0 0) (.slice none 0 0) [] [] from ⟨OL.nil _ _ _ _, OL.nil _ _ _ _, Below.refl _ _⟩)
  rw [← hR]
  rw [← hlen] at hl ⊢
  clear h2 hlen hR hwf
  go_enter Tryd.func22, Tryd.ntmps22
  go_wp2
  refine wp_labels2 (JD C R w p len c) (fun _ a' _ => farD len a') ?_ ?_
  · rintro l a' wr ⟨k, x, y, ns, E, u1, u2, u6, u7, u8, u9, u10, u11, u12, u13, u14, u15, u16, u17, u18, u19, u20, u21, u22, u23, u24, u25, u26, u27, u28, u29, u30, u31, u32, u33, u34, u35, u36, u37, u38, u39, u40, u41, u42, u43, u44, u45, u46, u47, u48, u49, u50, u51, u52, u53, u54, u55, u56, u57, u58, u59, u60, u61, u62, rfl, rfl, hk, hne, hdm, hdc⟩
    refine ⟨_, rfl, ?_⟩
    have HDM := Lib.hid hdm.out
    have HBR := Lib.hid hdm.out.bel
    have hswr := hdm.out.bel.size
    obtain ⟨q, cp, hvy, hq, hcp⟩ := OL.form hdm.out.ends
    obtain ⟨qx, cx, hvx, hqx, hcx⟩ := OL.form hdm.out.nodes
    obtain ⟨m, hm⟩ : ∃ m, m = E.length := ⟨_, rfl⟩
    obtain ⟨nn, hnn⟩ : ∃ nn, nn = ns.length := ⟨_, rfl⟩
    rw [List.length_reverse, ← hm] at hvy hq hcp
    rw [← hnn] at hvx hqx hcx
    subst hvy hvx
    have HN1 := Lib.hid (show ns.length + 1 = nn + 1 by rw [hnn])
    by_cases hE : ∃ E', E = (k : Int) :: E'
    · obtain ⟨E', rfl⟩ := hE
      obtain ⟨m1, hm1⟩ : ∃ m1, m1 = E'.length := ⟨_, rfl⟩
      have hmm : m = m1 + 1 := by rw [hm, hm1]; rfl
      subst hmm
      have E1 : ((m1 + 1 : Nat) : Int) - 1 = (m1 : Int) := by omega
      obtain ⟨gE, rfl, hgE, hgE2⟩ := hq (by omega)
      have hrev : ((k : Int) :: E').reverse = E'.reverse ++ [(k : Int)] := List.reverse_cons
      have z0 : wr.cell? ⟨gE, m1, none⟩ = some (.int .i64 (k : Int)) := by
        have h1 := OL.cell inZ_cells hdm.out.ends m1 0 (by rw [hrev]; simp; omega) (u := .int .i64 (k : Int)) (by
          have : ((k : Int) :: E').reverse[m1]? = some (k : Int) := by rw [hrev, List.getElem?_append_right (by simp; omega)]; simp [hm1]
          rw [List.getElem?_eq_getElem (by rw [hrev]; simp; omega)] at this
          rw [Option.some.inj this]; rfl)
        rwa [show m1 * inK.size + 0 = m1 by show m1 * 1 + 0 = m1; omega] at h1
      have HDC := Lib.hid (show decP k (C.drop k) E' (ns ++ [nodIf]) = R by rw [← dec_end]; exact hdc.out)
      have hne2 : nn + m1 + 1 ≤ k := by simp only [List.length_cons] at hne; omega
      have HNE := Lib.hid (show (ns ++ [nodIf]).length + E'.length ≤ k by rw [List.length_append, ← hnn, ← hm1]; simp only [List.length_cons, List.length_nil]; omega)
      have HTK := Lib.hid (fun w' (h : DM w w' (.slice qx nn cx) (.slice (some ⟨gE, 0, none⟩) (m1 + 1) cp) ns ((k : Int) :: E')) => show DM w w' (.slice qx nn cx) (.slice (some ⟨gE, 0, none⟩) m1 cp) ns E' from ⟨h.nodes, by
        have h2 := OL.take inZ_cells h.ends (m := m1) (by rw [hrev]; simp; omega)
        rwa [hrev, List.take_append_of_le_length (by simp; omega), List.take_of_length_le (by simp; omega)] at h2, h.bel⟩)
      clear hm hnn hm1 hrev hne hdm hdc hq hqx hcx
      go_wp2_with (at_builtin; refine append_elem ndK_ok ndE_cells rfl _ _ rfl rfl _ nodIf rfl ((HTK.out _ HDM.out).nodes) HN1.out (by simp [Act.eval]) (by omega) (HBR.out.size) ?_; intro g3 cap3 w3 hob hoth hat hg3 hsz3; have HD3 := Lib.hid ((HTK.out _ HDM.out).setNodes hoth hob); clear hob hoth hat hg3 hsz3)
      go_step3
      go_wp2
      refine ⟨⟨k, _, _, ns ++ [nodIf], E', _, _, _, _, _, _, _, _, _, _, _, _, _, _, _, _, _, _, _, _, _, _, _, _, _, _, _, _, _, _, _, _, _, _, _, _, _, _, _, _, _, _, _, _, _, _, _, _, _, _, _, _, _, _, _, _, _, _, _, rfl, rfl, by omega, HNE.out, HD3, HDC⟩, by show farD len _ < farD len _; unfold farD slLen intOf; simp <;> omega⟩
    · have hfl : flushE k E ns = (E, ns) := flush_ne (fun e he hek => hE ⟨E.tail, by
        cases E with
        | nil => cases he
        | cons a r => cases he; rw [← hek]; rfl⟩) ns
      by_cases hkl : k < len
      · have hkl1 : ¬ (k : Int) = (len : Int) := by omega
        have hkb : ((k : Int) == (len : Int)) = false := beq_eq_false_iff_ne.2 hkl1
        have hkC : k < C.length := by rw [← HL.out]; exact hkl
        obtain ⟨g, o, rfl, hg, hc⟩ := H2.out (by omega)
        have hgr : g < w.heap.size := by omega
        have hc2 : ∀ j (h : j < C.length) i u, (insE C[j])[i]? = some u → wr.cell? ⟨g, o + j * 8 + i, none⟩ = some u := fun j hj i u hu => by
          rw [HBR.out.cell (p := ⟨g, _, none⟩) hgr]; exact hc j hj i u hu
        obtain ⟨op, ia, t, neg, ha, la, sc, day, he, x0, x1, x2, x3, x4, x5, x6, x7⟩ := ins_cells hc2 k hkC
        have hWf : (⟨op, ia, t, neg, ha, la, sc, day⟩ : InsD).Wf := he ▸ HWF.out C[k] (List.getElem_mem hkC)
        have HDX := Lib.hid (show decP (k + 1) (C.drop (k + 1)) (decStep ⟨op, ia, t, neg, ha, la, sc, day⟩ E ns).1 (decStep ⟨op, ia, t, neg, ha, la, sc, day⟩ E ns).2 = R by
          rw [← hdc.out, List.drop_eq_getElem_cons hkC, decP_cons, hfl, he])
        have HND := Lib.hid (fun w => codnode_any ⟨op, ia, t, neg, ha, la, sc, day⟩ hWf w)
        have hne2 : ns.length + E.length + 1 ≤ k + 1 := by omega
        have HNE0 := Lib.hid (show ns.length + E.length ≤ k + 1 by omega)
        have HM1 := Lib.hid (show E.reverse.length + 1 = m + 1 by rw [List.length_reverse, hm])
        have hnk : nn ≤ 600 := by omega
        have hmk : m ≤ 600 := by omega
        clear hc hc2 he hWf hfl hdm hdc hne hqx hcx
        have hgd : m = 0 ∨ ∃ m1 e gE, m = m1 + 1 ∧ q = some ⟨gE, 0, none⟩ ∧ wr.cell? ⟨gE, m1, none⟩ = some (.int .i64 e) ∧ ¬ e = (k : Int) := by
          cases E with
          | nil => exact .inl hm
          | cons e E' =>
            right
            obtain ⟨gE, rfl, hgE, hgE2⟩ := hq (by rw [hm]; simp)
            refine ⟨E'.length, e, gE, by rw [hm]; rfl, rfl, ?_, fun hek => hE ⟨E', by rw [hek]⟩⟩
            have hrev : (e :: E').reverse = E'.reverse ++ [e] := List.reverse_cons
            have h1 := OL.cell inZ_cells HDM.out.ends E'.length 0 (by rw [hrev]; simp) (u := .int .i64 e) (by
              have : (e :: E').reverse[E'.length]? = some e := by rw [hrev, List.getElem?_append_right (by simp)]; simp
              rw [List.getElem?_eq_getElem (by rw [hrev]; simp)] at this
              rw [Option.some.inj this]; rfl)
            rwa [show E'.length * inK.size + 0 = E'.length by show E'.length * 1 + 0 = E'.length; omega] at h1
        clear hE hq hm hnn
        by_cases h102 : op = 102
        · subst h102
          have HDC := Lib.hid (show decP (k + 1) (C.drop (k + 1)) E ns = R from HDX.out)
          clear HND HDX
          rcases hgd with rfl | ⟨m1, e, gE, rfl, rfl, z0, hek⟩
          · go_wp2
            go_step3
            go_wp2
            refine ⟨⟨k + 1, _, _, ns, E, _, _, _, _, _, _, _, _, _, _, _, _, _, _, _, _, _, _, _, _, _, _, _, _, _, _, _, _, _, _, _, _, _, _, _, _, _, _, _, _, _, _, _, _, _, _, _, _, _, _, _, _, _, _, _, _, _, _, _, rfl, rfl, by omega, HNE0.out, Lib.hid (HDM.out.new (by (repeat' (first | (with_reducible exact Below.refl _ _) | (with_reducible assumption) | (with_reducible refine Below.alloc ?_ ?_ _) | (with_reducible refine below_drewN ?_ _) | (with_reducible refine below_drew ?_) | (with_reducible refine below_ext ?_ ?_ _ _) | (with_reducible refine Below.setCell ?_ ?_ _) | (simp; done) | (simp; omega) | omega)))), HDC⟩, by show farD len _ < farD len _; unfold farD slLen intOf; simp <;> omega⟩
          · have E1 : ((m1 + 1 : Nat) : Int) - 1 = (m1 : Int) := by omega
            have hekb : (e == (k : Int)) = false := beq_eq_false_iff_ne.2 hek
            go_wp2
            go_step3
            go_wp2
            refine ⟨⟨k + 1, _, _, ns, E, _, _, _, _, _, _, _, _, _, _, _, _, _, _, _, _, _, _, _, _, _, _, _, _, _, _, _, _, _, _, _, _, _, _, _, _, _, _, _, _, _, _, _, _, _, _, _, _, _, _, _, _, _, _, _, _, _, _, _, rfl, rfl, by omega, HNE0.out, Lib.hid (HDM.out.new (by (repeat' (first | (with_reducible exact Below.refl _ _) | (with_reducible assumption) | (with_reducible refine Below.alloc ?_ ?_ _) | (with_reducible refine below_drewN ?_ _) | (with_reducible refine below_drew ?_) | (with_reducible refine below_ext ?_ ?_ _ _) | (with_reducible refine Below.setCell ?_ ?_ _) | (simp; done) | (simp; omega) | omega)))), HDC⟩, by show farD len _ < farD len _; unfold farD slLen intOf; simp <;> omega⟩
        by_cases h103 : op = 103
        · subst h103
          have HDC := Lib.hid (show decP (k + 1) (C.drop (k + 1)) E ns = R from HDX.out)
          clear HND HDX
          rcases hgd with rfl | ⟨m1, e, gE, rfl, rfl, z0, hek⟩
          · go_wp2
            go_step3
            go_wp2
            refine ⟨⟨k + 1, _, _, ns, E, _, _, _, _, _, _, _, _, _, _, _, _, _, _, _, _, _, _, _, _, _, _, _, _, _, _, _, _, _, _, _, _, _, _, _, _, _, _, _, _, _, _, _, _, _, _, _, _, _, _, _, _, _, _, _, _, _, _, _, rfl, rfl, by omega, HNE0.out, Lib.hid (HDM.out.new (by (repeat' (first | (with_reducible exact Below.refl _ _) | (with_reducible assumption) | (with_reducible refine Below.alloc ?_ ?_ _) | (with_reducible refine below_drewN ?_ _) | (with_reducible refine below_drew ?_) | (with_reducible refine below_ext ?_ ?_ _ _) | (with_reducible refine Below.setCell ?_ ?_ _) | (simp; done) | (simp; omega) | omega)))), HDC⟩, by show farD len _ < farD len _; unfold farD slLen intOf; simp <;> omega⟩
          · have E1 : ((m1 + 1 : Nat) : Int) - 1 = (m1 : Int) := by omega
            have hekb : (e == (k : Int)) = false := beq_eq_false_iff_ne.2 hek
            go_wp2
            go_step3
            go_wp2
            refine ⟨⟨k + 1, _, _, ns, E, _, _, _, _, _, _, _, _, _, _, _, _, _, _, _, _, _, _, _, _, _, _, _, _, _, _, _, _, _, _, _, _, _, _, _, _, _, _, _, _, _, _, _, _, _, _, _, _, _, _, _, _, _, _, _, _, _, _, _, rfl, rfl, by omega, HNE0.out, Lib.hid (HDM.out.new (by (repeat' (first | (with_reducible exact Below.refl _ _) | (with_reducible assumption) | (with_reducible refine Below.alloc ?_ ?_ _) | (with_reducible refine below_drewN ?_ _) | (with_reducible refine below_drew ?_) | (with_reducible refine below_ext ?_ ?_ _ _) | (with_reducible refine Below.setCell ?_ ?_ _) | (simp; done) | (simp; omega) | omega)))), HDC⟩, by show farD len _ < farD len _; unfold farD slLen intOf; simp <;> omega⟩
        by_cases h101 : op = 101
        · subst h101
          have HDC := Lib.hid (show decP (k + 1) (C.drop (k + 1)) (ia :: E) ns = R from HDX.out)
          have HNE := Lib.hid (show ns.length + (ia :: E).length ≤ k + 1 by simp only [List.length_cons]; omega)
          clear HND HDX
          rcases hgd with rfl | ⟨m1, e, gE, rfl, rfl, z0, hek⟩
          · go_wp2_with (at_builtin; refine append_elem inK_ok inZ_cells rfl _ _ rfl rfl _ ia rfl ((HDM.out.new (by (repeat' (first | (with_reducible exact Below.refl _ _) | (with_reducible assumption) | (with_reducible refine Below.alloc ?_ ?_ _) | (with_reducible refine below_drewN ?_ _) | (with_reducible refine below_drew ?_) | (with_reducible refine below_ext ?_ ?_ _ _) | (with_reducible refine Below.setCell ?_ ?_ _) | (simp; done) | (simp; omega) | omega)))).ends) HM1.out (by simp [Act.eval]) (by omega) (by first | omega | (simp; omega)) ?_; intro g3 cap3 w3 hob hoth hat hg3 hsz3; have HD3 := Lib.hid (show DM w w3 _ _ ns (ia :: E) from (HDM.out.new (by (repeat' (first | (with_reducible exact Below.refl _ _) | (with_reducible assumption) | (with_reducible refine Below.alloc ?_ ?_ _) | (with_reducible refine below_drewN ?_ _) | (with_reducible refine below_drew ?_) | (with_reducible refine below_ext ?_ ?_ _ _) | (with_reducible refine Below.setCell ?_ ?_ _) | (simp; done) | (simp; omega) | omega)))).setEnds hoth (by rw [List.reverse_cons]; exact hob)); clear hob hoth hat hg3 hsz3)
            go_step3
            go_wp2
            refine ⟨⟨k + 1, _, _, ns, ia :: E, _, _, _, _, _, _, _, _, _, _, _, _, _, _, _, _, _, _, _, _, _, _, _, _, _, _, _, _, _, _, _, _, _, _, _, _, _, _, _, _, _, _, _, _, _, _, _, _, _, _, _, _, _, _, _, _, _, _, _, rfl, rfl, by omega, HNE.out, HD3, HDC⟩, by show farD len _ < farD len _; unfold farD slLen intOf; simp <;> omega⟩
          · have E1 : ((m1 + 1 : Nat) : Int) - 1 = (m1 : Int) := by omega
            have hekb : (e == (k : Int)) = false := beq_eq_false_iff_ne.2 hek
            go_wp2_with (at_builtin; refine append_elem inK_ok inZ_cells rfl _ _ rfl rfl _ ia rfl ((HDM.out.new (by (repeat' (first | (with_reducible exact Below.refl _ _) | (with_reducible assumption) | (with_reducible refine Below.alloc ?_ ?_ _) | (with_reducible refine below_drewN ?_ _) | (with_reducible refine below_drew ?_) | (with_reducible refine below_ext ?_ ?_ _ _) | (with_reducible refine Below.setCell ?_ ?_ _) | (simp; done) | (simp; omega) | omega)))).ends) HM1.out (by simp [Act.eval]) (by omega) (by first | omega | (simp; omega)) ?_; intro g3 cap3 w3 hob hoth hat hg3 hsz3; have HD3 := Lib.hid (show DM w w3 _ _ ns (ia :: E) from (HDM.out.new (by (repeat' (first | (with_reducible exact Below.refl _ _) | (with_reducible assumption) | (with_reducible refine Below.alloc ?_ ?_ _) | (with_reducible refine below_drewN ?_ _) | (with_reducible refine below_drew ?_) | (with_reducible refine below_ext ?_ ?_ _ _) | (with_reducible refine Below.setCell ?_ ?_ _) | (simp; done) | (simp; omega) | omega)))).setEnds hoth (by rw [List.reverse_cons]; exact hob)); clear hob hoth hat hg3 hsz3)
            go_step3
            go_wp2
            refine ⟨⟨k + 1, _, _, ns, ia :: E, _, _, _, _, _, _, _, _, _, _, _, _, _, _, _, _, _, _, _, _, _, _, _, _, _, _, _, _, _, _, _, _, _, _, _, _, _, _, _, _, _, _, _, _, _, _, _, _, _, _, _, _, _, _, _, _, _, _, _, rfl, rfl, by omega, HNE.out, HD3, HDC⟩, by show farD len _ < farD len _; unfold farD slLen intOf; simp <;> omega⟩
        by_cases h104 : op = 104
        · subst h104
          have HDC := Lib.hid (show decP (k + 1) (C.drop (k + 1)) E (ns ++ [nodIn]) = R from HDX.out)
          have HNE := Lib.hid (show (ns ++ [nodIn]).length + E.length ≤ k + 1 by simp only [List.length_append, List.length_cons, List.length_nil]; omega)
          clear HND HDX
          rcases hgd with rfl | ⟨m1, e, gE, rfl, rfl, z0, hek⟩
          · go_wp2_with (at_builtin; refine append_elem ndK_ok ndE_cells rfl _ _ rfl rfl _ nodIn rfl ((HDM.out.new (by (repeat' (first | (with_reducible exact Below.refl _ _) | (with_reducible assumption) | (with_reducible refine Below.alloc ?_ ?_ _) | (with_reducible refine below_drewN ?_ _) | (with_reducible refine below_drew ?_) | (with_reducible refine below_ext ?_ ?_ _ _) | (with_reducible refine Below.setCell ?_ ?_ _) | (simp; done) | (simp; omega) | omega)))).nodes) HN1.out (by simp [Act.eval]) (by omega) (by first | omega | (simp; omega)) ?_; intro g3 cap3 w3 hob hoth hat hg3 hsz3; have HD3 := Lib.hid ((HDM.out.new (by (repeat' (first | (with_reducible exact Below.refl _ _) | (with_reducible assumption) | (with_reducible refine Below.alloc ?_ ?_ _) | (with_reducible refine below_drewN ?_ _) | (with_reducible refine below_drew ?_) | (with_reducible refine below_ext ?_ ?_ _ _) | (with_reducible refine Below.setCell ?_ ?_ _) | (simp; done) | (simp; omega) | omega)))).setNodes hoth hob); clear hob hoth hat hg3 hsz3)
            go_step3
            go_wp2
            refine ⟨⟨k + 1, _, _, ns ++ [nodIn], E, _, _, _, _, _, _, _, _, _, _, _, _, _, _, _, _, _, _, _, _, _, _, _, _, _, _, _, _, _, _, _, _, _, _, _, _, _, _, _, _, _, _, _, _, _, _, _, _, _, _, _, _, _, _, _, _, _, _, _, rfl, rfl, by omega, HNE.out, HD3, HDC⟩, by show farD len _ < farD len _; unfold farD slLen intOf; simp <;> omega⟩
          · have E1 : ((m1 + 1 : Nat) : Int) - 1 = (m1 : Int) := by omega
            have hekb : (e == (k : Int)) = false := beq_eq_false_iff_ne.2 hek
            go_wp2_with (at_builtin; refine append_elem ndK_ok ndE_cells rfl _ _ rfl rfl _ nodIn rfl ((HDM.out.new (by (repeat' (first | (with_reducible exact Below.refl _ _) | (with_reducible assumption) | (with_reducible refine Below.alloc ?_ ?_ _) | (with_reducible refine below_drewN ?_ _) | (with_reducible refine below_drew ?_) | (with_reducible refine below_ext ?_ ?_ _ _) | (with_reducible refine Below.setCell ?_ ?_ _) | (simp; done) | (simp; omega) | omega)))).nodes) HN1.out (by simp [Act.eval]) (by omega) (by first | omega | (simp; omega)) ?_; intro g3 cap3 w3 hob hoth hat hg3 hsz3; have HD3 := Lib.hid ((HDM.out.new (by (repeat' (first | (with_reducible exact Below.refl _ _) | (with_reducible assumption) | (with_reducible refine Below.alloc ?_ ?_ _) | (with_reducible refine below_drewN ?_ _) | (with_reducible refine below_drew ?_) | (with_reducible refine below_ext ?_ ?_ _ _) | (with_reducible refine Below.setCell ?_ ?_ _) | (simp; done) | (simp; omega) | omega)))).setNodes hoth hob); clear hob hoth hat hg3 hsz3)
            go_step3
            go_wp2
            refine ⟨⟨k + 1, _, _, ns ++ [nodIn], E, _, _, _, _, _, _, _, _, _, _, _, _, _, _, _, _, _, _, _, _, _, _, _, _, _, _, _, _, _, _, _, _, _, _, _, _, _, _, _, _, _, _, _, _, _, _, _, _, _, _, _, _, _, _, _, _, _, _, _, rfl, rfl, by omega, HNE.out, HD3, HDC⟩, by show farD len _ < farD len _; unfold farD slLen intOf; simp <;> omega⟩
        have q102 : (op == 102) = false := beq_eq_false_iff_ne.2 h102
        have q103 : (op == 103) = false := beq_eq_false_iff_ne.2 h103
        have q101 : (op == 101) = false := beq_eq_false_iff_ne.2 h101
        have q104 : (op == 104) = false := beq_eq_false_iff_ne.2 h104
        obtain ⟨N, hN⟩ : ∃ N, N = nodI ⟨op, ia, t, neg, ha, la, sc, day⟩ := ⟨_, rfl⟩
        have HDC := Lib.hid (show decP (k + 1) (C.drop (k + 1)) E (ns ++ [N]) = R by
          rw [← HDX.out]
          unfold decStep
          rw [if_neg (by simp only; omega), if_neg (by simpa using h101), if_neg (by simpa using h104), ← hN])
        have HNE := Lib.hid (show (ns ++ [N]).length + E.length ≤ k + 1 by simp only [List.length_append, List.length_cons, List.length_nil]; omega)
        rw [← hN] at HND
        clear HDX hN h102 h103 h101 h104
        rcases hgd with rfl | ⟨m1, e, gE, rfl, rfl, z0, hek⟩
        · go_wp2_with (first
            | (go_at_call 37; (with_reducible refine (HND.out _).mono ?_); rintro e9 w1 ⟨rfl, hb1⟩; have HD1 := Lib.hid ((HDM.out.new (by (repeat' (first | (with_reducible exact Below.refl _ _) | (with_reducible assumption) | (with_reducible refine Below.alloc ?_ ?_ _) | (with_reducible refine below_drewN ?_ _) | (with_reducible refine below_drew ?_) | (with_reducible refine below_ext ?_ ?_ _ _) | (with_reducible refine Below.setCell ?_ ?_ _) | (simp; done) | (simp; omega) | omega)))).new hb1); have hsz1 := hb1.size; clear hb1)
            | (at_builtin; refine append_elem ndK_ok ndE_cells rfl _ _ rfl rfl _ N rfl (HD1.out.nodes) HN1.out (by simp [Act.eval]) (by omega) (HD1.out.bel.size) ?_; intro g3 cap3 w3 hob hoth hat hg3 hsz3; have HD3 := Lib.hid (HD1.out.setNodes hoth hob); clear hob hoth hat hg3 hsz3))
          go_step3
          go_wp2
          refine ⟨⟨k + 1, _, _, ns ++ [N], E, _, _, _, _, _, _, _, _, _, _, _, _, _, _, _, _, _, _, _, _, _, _, _, _, _, _, _, _, _, _, _, _, _, _, _, _, _, _, _, _, _, _, _, _, _, _, _, _, _, _, _, _, _, _, _, _, _, _, _, rfl, rfl, by omega, HNE.out, HD3, HDC⟩, by show farD len _ < farD len _; unfold farD slLen intOf; simp <;> omega⟩
        · have E1 : ((m1 + 1 : Nat) : Int) - 1 = (m1 : Int) := by omega
          have hekb : (e == (k : Int)) = false := beq_eq_false_iff_ne.2 hek
          go_wp2_with (first
            | (go_at_call 37; (with_reducible refine (HND.out _).mono ?_); rintro e9 w1 ⟨rfl, hb1⟩; have HD1 := Lib.hid ((HDM.out.new (by (repeat' (first | (with_reducible exact Below.refl _ _) | (with_reducible assumption) | (with_reducible refine Below.alloc ?_ ?_ _) | (with_reducible refine below_drewN ?_ _) | (with_reducible refine below_drew ?_) | (with_reducible refine below_ext ?_ ?_ _ _) | (with_reducible refine Below.setCell ?_ ?_ _) | (simp; done) | (simp; omega) | omega)))).new hb1); have hsz1 := hb1.size; clear hb1)
            | (at_builtin; refine append_elem ndK_ok ndE_cells rfl _ _ rfl rfl _ N rfl (HD1.out.nodes) HN1.out (by simp [Act.eval]) (by omega) (HD1.out.bel.size) ?_; intro g3 cap3 w3 hob hoth hat hg3 hsz3; have HD3 := Lib.hid (HD1.out.setNodes hoth hob); clear hob hoth hat hg3 hsz3))
          go_step3
          go_wp2
          refine ⟨⟨k + 1, _, _, ns ++ [N], E, _, _, _, _, _, _, _, _, _, _, _, _, _, _, _, _, _, _, _, _, _, _, _, _, _, _, _, _, _, _, _, _, _, _, _, _, _, _, _, _, _, _, _, _, _, _, _, _, _, _, _, _, _, _, _, _, _, _, _, rfl, rfl, by omega, HNE.out, HD3, HDC⟩, by show farD len _ < farD len _; unfold farD slLen intOf; simp <;> omega⟩
      · have hkl2 : k = len := by omega
        have HRE := Lib.hid (show R = ns by rw [← hdc.out, List.drop_eq_nil_of_le (by rw [← HL.out]; omega)]; show (flushE k E ns).2 = ns; rw [hfl])
        have hgd : m = 0 ∨ ∃ m1 e gE, m = m1 + 1 ∧ q = some ⟨gE, 0, none⟩ ∧ wr.cell? ⟨gE, m1, none⟩ = some (.int .i64 e) ∧ ¬ e = (k : Int) := by
          cases E with
          | nil => exact .inl hm
          | cons e E' =>
            right
            obtain ⟨gE, rfl, hgE, hgE2⟩ := hq (by rw [hm]; simp)
            refine ⟨E'.length, e, gE, by rw [hm]; rfl, rfl, ?_, fun hek => hE ⟨E', by rw [hek]⟩⟩
            have hrev : (e :: E').reverse = E'.reverse ++ [e] := List.reverse_cons
            have h1 := OL.cell inZ_cells HDM.out.ends E'.length 0 (by rw [hrev]; simp) (u := .int .i64 e) (by
              have : (e :: E').reverse[E'.length]? = some e := by rw [hrev, List.getElem?_append_right (by simp)]; simp
              rw [List.getElem?_eq_getElem (by rw [hrev]; simp)] at this
              rw [Option.some.inj this]; rfl)
            rwa [show E'.length * inK.size + 0 = E'.length by show E'.length * 1 + 0 = E'.length; omega] at h1
        have hmk : m ≤ 600 := by omega
        clear hE hq hm hnn hfl hdm hdc hne hqx hcx hkl
        subst hkl2
        rcases hgd with rfl | ⟨m1, e, gE, rfl, rfl, z0, hek⟩
        · go_wp2
          go_ret
          exact ⟨_, rfl, by rw [HRE.out]; exact HDM.out.nodes, HBR.out⟩
        · have E1 : ((m1 + 1 : Nat) : Int) - 1 = (m1 : Int) := by omega
          have hekb : (e == (k : Int)) = false := beq_eq_false_iff_ne.2 hek
          go_wp2
          go_ret
          exact ⟨_, rfl, by rw [HRE.out]; exact HDM.out.nodes, HBR.out⟩
  · intro hp
    go_wp2
    go_step3
    simp only [Exit.then]
    rename_i ha
    refine ha _ _ ?_
    refine hp 0 _ _ ?_ _ rfl
    exact ⟨0, _, _, [], [], _, _, _, _, _, _, _, _, _, _, _, _, _, _, _, _, _, _, _, _, _, _, _, _, _, _, _, _, _, _, _, _, _, _, _, _, _, _, _, _, _, _, _, _, _, _, _, _, _, _, _, _, _, _, _, _, _, _, _, rfl, rfl, Nat.zero_le _, Nat.le_refl _, HD0, HR0⟩
end Go.Proofs.YtpgfgaloagdogaaDoor
