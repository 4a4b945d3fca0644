/-
  The document's Order, DocOrder.
-/
import Derived.Test.YtdgdeognahmpmaaGrO
namespace Go.Proofs.Ytdgdeognahmpmaa
open Go.RowKit
open Gk (okN okN_iff nxt nxt_some nxt_none ord ord_none ord_some Dn nodup_le)
attribute [local go_sem] setCell_drewN cell?_ext frozen?_ext shape?_ext setCell_ext lt_1' ne_1' en_1' le_1' lt_2' ne_2' en_2' le_2' lt_3' ne_3' en_3' le_3' lt_4' ne_4' en_4' le_4' lt_5' ne_5' en_5' le_5' lt_6' ne_6' en_6' le_6' lt_7' ne_7' en_7' le_7' lt_8' ne_8' en_8' le_8' lt_9' ne_9' en_9' le_9' lt_10' ne_10' en_10' le_10' lt_11' ne_11' en_11' le_11' lt_12' ne_12' en_12' le_12'

def slen : Value → Nat
  | .slice _ n _ => n
  | _ => 0
/-- how the document's Order ends -/
def OrdP (R : List Nat) (N : Nat) (w : World) (e : Ending) (w' : World) : Prop := ∃ v' b, e = .returned (.tuple #[v', .bool b]) ∧ Below w.heap.size w w' ∧ b = decide (¬ R.length < N) ∧ SRd w'.heap.size w' v' (if R.length < N then [] else R) ∧ Fr w.heap.size w' v'
/-- the order, or none -/
def ordR (nd : Nat → List Nat) (N : Nat) : List Nat := if (ord nd N N []).length < N then [] else ord nd N N []
theorem bel_drew {n : Nat} {a b : World} (h : Below n a b) (d : Nat) : Below n a (b.drewN d) := ⟨h.os, h.tape, h.output, h.size, h.block⟩
theorem okN_f1 {nd : Nat → List Nat} {D : List Nat} {i : Nat} (h : D.contains i = true) : okN nd D i = false := by
  unfold okN; rw [h]; rfl
theorem okN_f2 {nd : Nat → List Nat} {D : List Nat} {i : Nat} (h : D.contains i = false) : okN nd D i = (nd i).all D.contains := by
  unfold okN; rw [h]; rfl
theorem tf_row {w : World} {g n : Nat} {D : List Nat} {t : Nat} (h : VRow w g n (tf D)) (ht : t < n) : VRow (w.setCell ⟨g, t, none⟩ (.bool true)) g n (tf (D ++ [t])) :=
  (h.store t _ ht).congr fun j _ => tf_snoc D t j
theorem OB.ne {B : Nat} {w : World} {v : Value} {l : List Nat} (h : OB B w v l) {g : Nat} (hg : g < B) : ∀ k, v.ownBlock = some k → ¬ k = g := fun k hk e => by
  have := (h.lt k hk).1; omega
set_option maxRecDepth 100000 in
set_option maxHeartbeats 16000000 in
theorem rorder_any {n w v N nd} (hf : Fm N nd) (h : GRd n w v N nd) (hn : n ≤ w.heap.size) :
    Calls Try.prog 18 #[v] w fun e w' => OrdP (ord nd N N []) N w e w' := by
  obtain ⟨p, c, rfl, h2⟩ := h
  have H2 := Lib.hid h2
  have HFM := Lib.hid hf
  have hfew := hf.few
  have hmk := gmake_bool N (by omega)
  obtain ⟨R, hR⟩ : ∃ R, R = ord nd N N [] := ⟨_, rfl⟩
  have HR := Lib.hid hR
  rw [← hR]
  have HN := Lib.hid hn
  have HT := Lib.hid (VRow.made w 4 (.bool false) N)
  have HB := Lib.hid ((Below.refl w.heap.size w).alloc (Nat.le_refl _) (.cells (madeCells #[.bool false] N) 4))
  have W1 : IntKind.i64.wrap ((N : Int) - 1) = (N : Int) - 1 := IntWalk.i64_in _ (by omega)
  clear h2 hR hf hn
  go_enter Try.func18, Try.ntmps18
  go_wp2
  go_loopw [5] (fun z wr => ∃ (D : List Nat) (m : Nat) (q : Option Addr) (cc : Nat), z = .slice q m cc ∧ m ≤ N ∧ Hid (m = D.length) ∧ Hid (OB (w.heap.size + 1) wr z D) ∧ Hid (Dn nd N D) ∧ Hid (ord nd N (N - D.length) D = R) ∧ Hid (VRow wr w.heap.size N (tf D)) ∧ Hid (Below w.heap.size w wr)) (fun z _ => N - slen z)
  case atStart => exact ⟨[], 0, none, 0, rfl, Nat.zero_le _, Lib.hid rfl, Lib.hid (World.ownsRow_nil _ _ _ _), Lib.hid (Dn.nil nd N), Lib.hid HR.out.symm, Lib.hid (HT.out.congr fun j _ => by simp [tf]), HB⟩
  case round =>
    obtain ⟨D, m, q, cc, rfl, hmN, hm, hob, hdn, hord, hrow, hbel⟩ := hrel
    by_cases hlt : m < N
    · have hlti : (m : Int) < (N : Int) := by omega
      go_wp2
      go_loopw [6, 7] (fun z y wr2 => ∃ (k : Nat) (r x : Int), y = .int .i64 r ∧ r = (k : Int) - 1 ∧ k ≤ N ∧ z = .int .i64 x ∧ Hid (Nx nd N D k x) ∧ ∃ d, wr2 = wr.drewN d) (fun _ y _ => (intOf y + 1).toNat)
      case atStart => exact ⟨N, (N : Int) - 1, -1, by go_num, rfl, Nat.le_refl _, rfl, Lib.hid (Nx.start nd N D), 0, rfl⟩
      case round =>
        obtain ⟨k, r, x, rfl, hr, hkN, rfl, hnx, d, rfl⟩ := hrel
        by_cases h0 : k = 0
        · subst h0
          have hrn : ¬ (0 : Int) ≤ r := by omega
          clear hr
          by_cases hx : x < 0
          · have hno := hnx.out.none hx
            have HE := Lib.hid (show R = D by rw [← hord.out]; exact ord_none hno)
            go_wp2
            go_ret2
            exact (show ∃ v' b, _ from ⟨_, false, rfl, bel_drew hbel.out d, by rw [HE.out, ← hm.out]; exact (decide_eq_false (fun h => h hlt)).symm, by rw [HE.out, ← hm.out, if_pos hlt]; exact ⟨SRd.nil _ _, Fr.nil _ _⟩⟩)
          · obtain ⟨t, rfl, hsm⟩ := hnx.out.some hx
            obtain ⟨hok, htN, -⟩ := nxt_some.1 hsm
            have hDn := hdn.out.snoc hok htN
            have HD2 := Lib.hid hDn
            have hle := nodup_le hDn.nodup hDn.lt
            have HO2 := Lib.hid (show ord nd N (N - (D ++ [t]).length) (D ++ [t]) = R by
              rw [← hord.out, List.length_append]
              rw [List.length_append] at hle
              simp only [List.length_cons, List.length_nil] at hle ⊢
              rw [show N - D.length = (N - (D.length + (0 + 1))) + 1 by omega, ord_some hsm])
            have hcell := hrow.out.cell t htN
            have hfree := hrow.out.free t
            have hti : (t : Int) < (N : Int) := by omega
            have HROW := Lib.hid ((tf_row hrow.out htN).drew d)
            have hO1 := ((Oth.refl (· = w.heap.size) wr).set ⟨w.heap.size, t, none⟩ rfl (.bool true)).drew d
            have hob2 : OB (w.heap.size + 1) ((wr.setCell ⟨w.heap.size, t, none⟩ (.bool true)).drewN d) (.slice q m cc) D := hob.out.kept hO1 (hob.out.ne (Nat.lt_succ_self w.heap.size))
            have hltw : w.heap.size + 1 ≤ ((wr.setCell ⟨w.heap.size, t, none⟩ (.bool true)).drewN d).heap.size := by show _ ≤ (wr.setCell ⟨w.heap.size, t, none⟩ (.bool true)).heap.size; rw [World.size_setCell]; exact hrow.out.lt
            have HOB := Lib.hid hob2
            have HBE := Lib.hid (show Below w.heap.size w ((wr.setCell ⟨w.heap.size, t, none⟩ (.bool true)).drewN d) from hbel.out.trans (hO1.below w.heap.size (Nat.le_of_lt hrow.out.lt) (fun k hk e => by omega)))
            have HLW := Lib.hid hltw
            have hm1 : m + 1 ≤ N := by omega
            have HM := Lib.hid (show m = D.length from hm.out)
            have hlen : D.length ≤ 1000000 := by rw [← hm.out]; omega
            clear hsm hok hDn hle hdn hord hrow hob hO1 hob2 hnx hbel hm hltw
            go_wp2_with (at_builtin; refine append_ob rfl _ _ rfl rfl _ t rfl HOB.out (by simp [Act.eval]) hlen HLW.out ?_; intro g2 cap2 w2 hob3 hoth hat hg2)
            have HW := Lib.hid (show VRow w2 w.heap.size N (tf (D ++ [t])) from HROW.out.kept hoth (fun e => (HOB.out.ne (Nat.lt_succ_self w.heap.size)) _ e rfl))
            have HBF := Lib.hid (show Below w.heap.size w w2 from HBE.out.trans (hoth.below w.heap.size (Nat.le_of_lt HLW.out) (fun k hk e => by have := (HOB.out.lt k e).1; omega)))
            go_roundw
            case rel => exact ⟨D ++ [t], m + 1, _, _, by rw [← HM.out], hm1, Lib.hid (by rw [List.length_append, HM.out]; rfl), Lib.hid hob3, HD2, HO2, HW, HBF⟩
            case measure => simp only [slen]; have := HM.out; omega
        · obtain ⟨s, rfl⟩ : ∃ s, k = s + 1 := ⟨k - 1, by omega⟩
          obtain rfl : r = (s : Int) := by omega
          have hsN : s < N := by omega
          have hsNi : (s : Int) < (N : Int) := by omega
          have W2 : IntKind.i64.wrap ((s : Int) - 1) = (s : Int) - 1 := IntWalk.i64_in _ (by omega)
          have hcell := hrow.out.cell s hsN
          unfold tf at hcell
          cases hb : D.contains s with
          | true =>
            rw [hb] at hcell
            have HX := Lib.hid (hnx.out.no (okN_f1 hb))
            clear hr hnx h0 hb
            go_wp2
            go_roundw
            case rel => exact ⟨s, _, _, by go_num, rfl, by omega, rfl, HX, _, rfl⟩
            case measure => simp only [intOf]; omega
          | false =>
            rw [hb] at hcell
            have hbel2 := hbel.out
            obtain ⟨g, o, rfl, hg, hc⟩ := H2.out (by omega)
            obtain ⟨vi, hvi, hsr⟩ := hc s hsN
            have hvi2 : wr.cell? ⟨g, o + s, none⟩ = some vi := by rw [hbel.out.cell (p := ⟨g, o + s, none⟩) (Nat.lt_of_lt_of_le hg HN.out)]; exact hvi
            have hrd := fun d => rready_any (gt := w.heap.size) (N := N) (D := D) (w := wr.drewN d) ((hsr.keep (hbel.out.mono HN.out)).keep (bel_drew (Below.refl n wr) d)) (by have := HFM.out.short s hsN; omega) (HFM.out.lt s hsN) (hrow.out.drew d)
            have HRD := Lib.hid hrd
            have HOK := Lib.hid (okN_f2 (nd := nd) hb)
            clear hr h0 hb hc hsr hrd hbel2 hvi
            cases hk : (nd s).all D.contains with
            | true =>
              rw [hk] at HRD HOK
              have HX := Lib.hid (Nx.yes hsN HOK.out)
              clear hk
              go_wp2_with (go_at_call 23; ((with_reducible refine (HRD.out _).mono ?_); rintro e w' ⟨rfl, d2, rfl⟩))
              go_roundw
              case rel => exact ⟨s, _, _, by go_num, rfl, by omega, rfl, HX, _, rfl⟩
              case measure => simp only [intOf]; omega
            | false =>
              rw [hk] at HRD HOK
              have HX := Lib.hid (hnx.out.no HOK.out)
              clear hk
              go_wp2_with (go_at_call 23; ((with_reducible refine (HRD.out _).mono ?_); rintro e w' ⟨rfl, d2, rfl⟩))
              go_roundw
              case rel => exact ⟨s, _, _, by go_num, rfl, by omega, rfl, HX, _, rfl⟩
              case measure => simp only [intOf]; omega
    · have HE := Lib.hid (show R = D ∧ ¬ D.length < N by
        have := hm.out
        refine ⟨?_, by omega⟩
        rw [← hord.out, show N - D.length = 0 by omega]; rfl)
      have hlti : ¬ (m : Int) < (N : Int) := by omega
      go_wp2
      go_ret2
      exact (show ∃ v' b, _ from ⟨_, true, rfl, hbel.out, by rw [HE.out.1]; exact (decide_eq_true HE.out.2).symm, by rw [HE.out.1, if_neg HE.out.2]; exact ⟨hob.out.srd, hob.out.fr.more (Nat.le_succ _)⟩⟩)
end Go.Proofs.Ytdgdeognahmpmaa
