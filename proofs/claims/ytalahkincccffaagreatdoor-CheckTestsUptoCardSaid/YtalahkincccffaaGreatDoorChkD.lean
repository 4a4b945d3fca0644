/-
  determine: the type of the last node, where no node asks anything of a value.
-/
import Derived.Test.YtalahkincccffaaGreatDoorBu
namespace Go.Proofs.YtalahkincccffaaGreatDoor
open Go.RowKit Word
attribute [local go_sem] setCell_drewN cell?_ext frozen?_ext shape?_ext setCell_ext lt_1' ne_1' en_1' le_1' lt_2' ne_2' en_2' le_2' lt_3' ne_3' en_3' le_3' lt_4' ne_4' en_4' le_4' lt_5' ne_5' en_5' le_5' lt_6' ne_6' en_6' le_6' lt_7' ne_7' en_7' le_7' lt_8' ne_8' en_8' le_8' lt_9' ne_9' en_9' le_9' lt_10' ne_10' en_10' le_10' lt_11' ne_11' en_11' le_11' lt_12' ne_12' en_12' le_12'

def tcK : El := { T := 48, S := 70, size := 3, bytes := 40, zero := .agg #[.int .i64 0, .int .i64 0, .slice none 0 0] }
theorem tcK_ok : tcK.Ok Tryz.prog := ⟨Tryz.underlying70, by kernel_rfl, by rfl, by decide, by decide, by decide⟩
theorem tcE_cells : Cells tcK itcE := fun s => ⟨rfl, fun u hu => by
  unfold itcE at hu
  simp at hu
  rcases hu with rfl | rfl | rfl <;> rfl⟩
theorem RL.up {α : Type} {k : Nat} {enc : α → List Value} {w w' : World} {v : Value} {l : List α} (h : RL k enc w.heap.size w v l) (hb : Below w.heap.size w w') : RL k enc w'.heap.size w' v l := (h.keep hb).more hb.size
def okRun (C : NdD → List Ty → Ty → Int → Prop) (res : Ty) (err : Int) : List NdD → List Ty → Prop
  | [], st => err = 0 ∧ ∃ r, st = res :: r
  | x :: l, st => 0 ≤ x.k ∧ x.k.toNat ≤ st.length ∧ x.op ≠ 23 ∧ (x.op < 30 ∨ 37 < x.op) ∧ ∃ t e, C x (st.drop (st.length - x.k.toNat)) t e ∧ (e = 0 → okRun C res err l (st.take (st.length - x.k.toNat) ++ [t])) ∧ (e ≠ 0 → res = (0, 0) ∧ err = e)
def TyC (m : Option Nat) (w : World) (x : NdD) (ts : List Ty) (t : Ty) (e : Int) : Prop := ∀ w' pv, Below w.heap.size w w' → RL 2 tpE w'.heap.size w' pv ts → Calls Tryz.prog 30 #[.map m, NdV x, pv] w' fun en w'' => en = .returned (.tuple #[TyV t, .int .i64 e]) ∧ Below w'.heap.size w' w''
set_option maxRecDepth 100000 in
set_option maxHeartbeats 8000000 in
theorem determine_plain (l : List NdD) (m : Option Nat) (res : Ty) (err : Int) (n : Nat) (w : World) (v : Value) (hv : RL 8 ndE n w v l) (hn : n ≤ w.heap.size) (hl : l.length ≤ 300) (hrun : okRun (TyC m w) res err l []) :
    Calls Tryz.prog 15 #[.map m, v] w fun e w' => e = .returned (.tuple #[.agg #[.int .i64 res.1, .int .i64 res.2, .slice none 0 0], .int .i64 err]) ∧ Below w.heap.size w w' := by
  have HD0 := Lib.hid (OL.nil tcK itcE (w.heap.size + 1) (w.alloc (.cells #[.int .i64 0, .int .i64 0, .slice none 0 0] 48)))
  obtain ⟨p, c, rfl, h2⟩ := hv
  have H2 := Lib.hid h2
  obtain ⟨len, hlen⟩ : ∃ len, len = l.length := ⟨_, rfl⟩
  have HL := Lib.hid hlen
  rw [← hlen] at hl ⊢
  have HR0 := Lib.hid hrun
  clear h2 hlen hrun
  go_enter Tryz.func15, Tryz.ntmps15
  go_wp2
  go_loopw [6, 15] (fun x z wr => ∃ (i : Nat) (st : List Ty), z = .int .i64 i ∧ i ≤ len ∧ st.length ≤ i ∧ Hid (OL tcK itcE (w.heap.size + 1) wr x st) ∧ Hid (Below w.heap.size w wr) ∧ w.heap.size < wr.heap.size ∧ Hid (okRun (TyC m w) res err (l.drop i) st) ∧
    wr.cell? ⟨w.heap.size, 0, none⟩ = some (.int .i64 0) ∧ wr.cell? ⟨w.heap.size, 1, none⟩ = some (.int .i64 0) ∧ wr.cell? ⟨w.heap.size, 2, none⟩ = some (.slice none 0 0) ∧ wr.frozen? ⟨w.heap.size, 0, none⟩ = false ∧ wr.frozen? ⟨w.heap.size, 1, none⟩ = false ∧ wr.frozen? ⟨w.heap.size, 2, none⟩ = false) (fun _ z _ => len - (intOf z).toNat)
  case atStart => exact ⟨0, [], rfl, Nat.zero_le _, Nat.le_refl _, HD0, Lib.hid (by (repeat' (first | (with_reducible first | exact Below.refl _ _ | assumption | refine Below.alloc ?_ ?_ _ | refine below_drewN ?_ _ | refine below_drew ?_ | refine below_ext ?_ ?_ _ _ | refine Below.setCell ?_ ?_ _) | (simp; done) | (simp; omega) | omega))), by simp, HR0, by simp [go_sem], by simp [go_sem], by simp [go_sem], by simp [go_sem], by simp [go_sem], by simp [go_sem]⟩
  case round =>
    obtain ⟨i, st, rfl, hile, hsti, hol, hbe, hlt, hru, r0, r1, r2, f0, f1, f2⟩ := hrel
    clear HD0 HR0
    have hsw := hbe.out.size
    have HBR := Lib.hid hbe.out
    have HKR := Lib.hid (show ∀ w', Below wr.heap.size wr w' → w.heap.size < w'.heap.size ∧ w'.cell? ⟨w.heap.size, 0, none⟩ = some (.int .i64 0) ∧ w'.cell? ⟨w.heap.size, 1, none⟩ = some (.int .i64 0) ∧ w'.cell? ⟨w.heap.size, 2, none⟩ = some (.slice none 0 0) ∧ w'.frozen? ⟨w.heap.size, 0, none⟩ = false ∧ w'.frozen? ⟨w.heap.size, 1, none⟩ = false ∧ w'.frozen? ⟨w.heap.size, 2, none⟩ = false from fun w' h => ⟨Nat.lt_of_lt_of_le hlt h.size, (h.cell (p := ⟨_, _, none⟩) hlt).trans r0, (h.cell (p := ⟨_, _, none⟩) hlt).trans r1, (h.cell (p := ⟨_, _, none⟩) hlt).trans r2, (h.frozen (p := ⟨_, _, none⟩) hlt).trans f0, (h.frozen (p := ⟨_, _, none⟩) hlt).trans f1, (h.frozen (p := ⟨_, _, none⟩) hlt).trans f2⟩)
    obtain ⟨q, cp, hvs, hq, hcp⟩ := OL.form hol.out
    have HOWN := Lib.hid (show ∀ n k2, (Value.slice q n cp).ownBlock = some k2 → w.heap.size + 1 ≤ k2 from fun n k2 h2 => (World.ownsRow.lt hol.out k2 (by rw [hvs]; cases q <;> exact h2)).1)
    have HOWN2 := Lib.hid (show ∀ n k2, (Value.slice q n cp).ownBlock = some k2 → k2 < wr.heap.size from fun n k2 h2 => (World.ownsRow.lt hol.out k2 (by rw [hvs]; cases q <;> exact h2)).2)
    have HOL := Lib.hid (show OL tcK itcE (w.heap.size + 1) wr (.slice q st.length cp) st from by rw [← hvs]; exact hol.out)
    obtain ⟨sn, hsn⟩ : ∃ sn, sn = st.length := ⟨_, rfl⟩
    have HSN := Lib.hid hsn
    rw [← hsn] at hvs hq hcp hsti HOL
    obtain rfl : u6 = .slice q sn cp := hvs
    clear hsn hol
    by_cases hil : i < len
    · have hii : (i : Int) < (len : Int) := by omega
      have hil2 : i < l.length := by rw [← HL.out]; exact hil
      obtain ⟨g, o, rfl, hg, hc⟩ := H2.out (by omega)
      have hgr : g < wr.heap.size := by omega
      have hc2 : ∀ j (h : j < l.length) i u, (ndE l[j])[i]? = some u → wr.cell? ⟨g, o + j * 8 + i, none⟩ = some u := fun j hj i u hu => by
        rw [hbe.out.cell (p := ⟨g, _, none⟩) (Nat.lt_of_lt_of_le hg hn)]; exact hc j hj i u hu
      obtain ⟨oa, ka, ta, na, ca, sa, da, he, x0, x1, x2, x3, x4, x5, x6, x7⟩ := nd_cells hc2 i hil2
      have hdr : l.drop i = ⟨oa, ka, ta, na, ca, sa, da⟩ :: l.drop (i + 1) := by rw [List.drop_eq_getElem_cons hil2, he]
      have hru2 := hru.out
      rw [hdr] at hru2
      obtain ⟨hk0, hks, ho23, hoask, t, e, hC, hgo, hno⟩ := hru2
      simp only at hk0 hks ho23 hoask
      obtain ⟨kk, rfl⟩ : ∃ kk : Nat, ka = (kk : Int) := ⟨ka.toNat, by omega⟩
      simp only [Int.toNat_natCast] at hks hC hgo
      rw [← HSN.out] at hks hC hgo
      obtain ⟨r, hr⟩ : ∃ r, sn = r + kk := ⟨sn - kk, by omega⟩
      have hrr : sn - kk = r := by omega
      rw [hrr] at hC hgo
      have E1 : (sn : Int) - (kk : Int) = (r : Int) := by omega
      have HGO := Lib.hid hgo
      have HNO := Lib.hid hno
      have HC := Lib.hid (show ∀ w' pv, Below w.heap.size w w' → RL 2 tpE w'.heap.size w' pv (st.drop r) → Calls Tryz.prog 30 #[.map m, .agg #[.int .i64 oa, .int .i64 (kk : Int), .string ta, .bool na, .int .u64 (Word.hi ca : Int), .int .u64 (Word.lo ca : Int), .int .i64 sa, .int .i64 da], pv] w' fun en w'' => en = .returned (.tuple #[TyV t, .int .i64 e]) ∧ Below w'.heap.size w' w'' from hC)
      have hdl : (st.drop r).length = kk := by rw [List.length_drop, ← HSN.out]; omega
      have HPR := Lib.hid (show ∀ (P : Option Addr) (C : Nat), (0 < kk → ∃ gd, P = some ⟨gd, r * 3, none⟩ ∧ q = some ⟨gd, 0, none⟩) → RL 3 itcE wr.heap.size wr (.slice P kk C) (st.drop r) from fun P C hP => by
        refine ⟨P, C, by rw [hdl], fun h0 => ?_⟩
        obtain ⟨gd, rfl, rfl⟩ := hP (by omega)
        refine ⟨gd, r * 3, rfl, (World.ownsRow.lt HOL.out gd rfl).2, fun j hj i2 u hu => ?_⟩
        have hl1 : r + j < st.length := by rw [hdl] at hj; rw [← HSN.out]; omega
        have hi2 : i2 < 3 := (List.getElem?_eq_some_iff.1 hu).1
        have hu2 : (itcE (st[r + j]))[i2]? = some u := by rw [List.getElem_drop] at hu; exact hu
        have c0 := OL.cell tcE_cells HOL.out (r + j) i2 hl1 hu2
        rwa [show (r + j) * tcK.size + i2 = r * 3 + j * 3 + i2 by show (r + j) * 3 + i2 = _; omega] at c0)
      have HOL3 := Lib.hid (show ∀ w', Below wr.heap.size wr w' → OL tcK itcE (w.heap.size + 1) w' (.slice q r cp) (st.take r) from fun w' hb => OL.take (m := r) tcE_cells (OL.new HOL.out hb) (by rw [← HSN.out]; omega))
      generalize (Word.hi ca : Int) = ha at *
      generalize (Word.lo ca : Int) = la at *
      clear hc hc2 he hdr hru hgo hno hC
      have hra : r + kk ≤ sn := by omega
      have hrb : sn ≤ r + kk := by omega
      clear hr hrr
      go_upto_region 6 with fail
      go_cut [10] (fun s10 wx => ∃ P C, s10 = .slice P kk C ∧ (0 < kk → ∃ gd, P = some ⟨gd, r * 3, none⟩ ∧ q = some ⟨gd, 0, none⟩) ∧ wx = wr.alloc (.cells #[.int .i64 oa, .int .i64 (kk : Int), .string ta, .bool na, .int .u64 ha, .int .u64 la, .int .i64 sa, .int .i64 da] 39))
      case first =>
        by_cases hk9 : kk = 0
        · subst hk9
          obtain rfl : r = sn := by omega
          clear E1 hk0 hks
          by_cases h0 : r = 0
          · subst h0
            go_wp2_with fail
            go_meet
            exact ⟨_, _, rfl, fun h => absurd h (by omega), rfl⟩
          · obtain ⟨gd, rfl, hgd1, hgd2⟩ := hq (by omega)
            have hcc : cp = r ∨ (r < cp ∧ ¬ cp = r) := by omega
            rcases hcc with rfl | ⟨hcc, hcc2⟩
            all_goals
              go_wp2_with fail
              go_meet
              exact ⟨_, _, rfl, fun h => absurd h (by omega), rfl⟩
        · obtain ⟨gd, rfl, hgd1, hgd2⟩ := hq (by omega)
          have hrc : r < cp := by omega
          have hrc2 : ¬ cp = r := by omega
          have hrs : (r : Int) ≤ (sn : Int) := by omega
          have hr1 : (0 : Int) ≤ (r : Int) := by omega
          have hsc : (sn : Int) ≤ (cp : Int) := by omega
          have hsc2 : (r : Int) + (kk : Int) ≤ (cp : Int) := by omega
          have hsc3 : (r : Int) ≤ (r : Int) + (kk : Int) := by omega
          have hnr : sn - r = kk := by omega
          go_wp2_with fail
          go_meet
          exact ⟨some ⟨gd, r * 3, none⟩, cp - r, by (first | rfl | rw [hnr]), fun _ => ⟨gd, rfl, rfl⟩, rfl⟩
      case rest =>
        obtain ⟨P, C, rfl, hP, rfl⟩ := hcut
        have HPV := Lib.hid (HPR.out P C hP)
        have HTO := Lib.hid (fun w' (hb : Below wr.heap.size wr w') => typesOf_any (st.drop r) wr.heap.size w' _ (HPV.out.keep hb) hb.size (by omega))
        have HAS := Lib.hid (fun w' (hb : Below wr.heap.size wr w') => asksOf_none oa hoask (st.drop r) wr.heap.size w' _ (HPV.out.keep hb) hb.size (by omega))
        have HCC := Lib.hid (fun w' pv (hb : Below wr.heap.size wr w') h => HC.out w' pv (hbe.out.trans (hb.mono hsw)) h)
        obtain ⟨t1, t2⟩ := t
        have hkn : wr.heap.size < (wr.alloc (.cells #[.int .i64 oa, .int .i64 (kk : Int), .string ta, .bool na, .int .u64 ha, .int .u64 la, .int .i64 sa, .int .i64 da] 39)).heap.size := by simp
        have HKN := Lib.hid (show ∀ w', Below (wr.heap.size + 1) (wr.alloc (.cells #[.int .i64 oa, .int .i64 (kk : Int), .string ta, .bool na, .int .u64 ha, .int .u64 la, .int .i64 sa, .int .i64 da] 39)) w' → w'.cell? ⟨wr.heap.size, 0, none⟩ = some (.int .i64 oa) ∧ w'.cell? ⟨wr.heap.size, 1, none⟩ = some (.int .i64 (kk : Int)) ∧ w'.cell? ⟨wr.heap.size, 2, none⟩ = some (.string ta) ∧ w'.cell? ⟨wr.heap.size, 3, none⟩ = some (.bool na) ∧ w'.cell? ⟨wr.heap.size, 4, none⟩ = some (.int .u64 ha) ∧ w'.cell? ⟨wr.heap.size, 5, none⟩ = some (.int .u64 la) ∧ w'.cell? ⟨wr.heap.size, 6, none⟩ = some (.int .i64 sa) ∧ w'.cell? ⟨wr.heap.size, 7, none⟩ = some (.int .i64 da) from fun w' hb => by
          have hc := fun j => hb.cell (p := ⟨wr.heap.size, j, none⟩) (Nat.lt_succ_self _)
          exact ⟨(hc _).trans (by simp [go_sem]), (hc _).trans (by simp [go_sem]), (hc _).trans (by simp [go_sem]), (hc _).trans (by simp [go_sem]), (hc _).trans (by simp [go_sem]), (hc _).trans (by simp [go_sem]), (hc _).trans (by simp [go_sem]), (hc _).trans (by simp [go_sem])⟩)
        clear HPR HC hbe hP
        go_upto_region 7 with fail
        go_cut [11, 12] (fun s11 s12 wx => ∃ b, s11 = .pointer (some ⟨b, 0, none⟩) ∧ s12 = .int .i64 e ∧ wr.heap.size < b ∧ b < wx.heap.size ∧ wx.cell? ⟨b, 0, none⟩ = some (.int .i64 t1) ∧ wx.cell? ⟨b, 1, none⟩ = some (.int .i64 t2) ∧ Hid (Below wr.heap.size wr wx) ∧ wr.heap.size < wx.heap.size ∧ wx.cell? ⟨wr.heap.size, 0, none⟩ = some (.int .i64 oa))
        case first =>
          go_region_held3 (fun w' => w'.cell? ⟨wr.heap.size, 0, none⟩ = some (.int .i64 oa) ∧ w'.cell? ⟨wr.heap.size, 1, none⟩ = some (.int .i64 (kk : Int)) ∧ w'.cell? ⟨wr.heap.size, 2, none⟩ = some (.string ta) ∧ w'.cell? ⟨wr.heap.size, 3, none⟩ = some (.bool na) ∧ w'.cell? ⟨wr.heap.size, 4, none⟩ = some (.int .u64 ha) ∧ w'.cell? ⟨wr.heap.size, 5, none⟩ = some (.int .u64 la) ∧ w'.cell? ⟨wr.heap.size, 6, none⟩ = some (.int .i64 sa) ∧ w'.cell? ⟨wr.heap.size, 7, none⟩ = some (.int .i64 da)) (simp [go_sem]) (first
            | (go_at_call 31; (with_reducible refine (HTO.out _ (by (repeat' (first | (with_reducible first | exact Below.refl _ _ | assumption | refine Below.alloc ?_ ?_ _ | refine below_drewN ?_ _ | refine below_drew ?_ | refine below_ext ?_ ?_ _ _ | refine Below.setCell ?_ ?_ _) | (simp; done) | (simp; omega) | omega)))).mono ?_); rintro e9 w1 ⟨pv, rfl, hrl, hb1⟩; obtain ⟨osT, dT, rfl⟩ := ext_of_below hb1; have HRL := Lib.hid hrl; clear hb1 hrl)
            | (go_at_call 30; (with_reducible refine (HCC.out _ _ (by (repeat' (first | (with_reducible first | exact Below.refl _ _ | assumption | refine Below.alloc ?_ ?_ _ | refine below_drewN ?_ _ | refine below_drew ?_ | refine below_ext ?_ ?_ _ _ | refine Below.setCell ?_ ?_ _) | (simp; done) | (simp; omega) | omega))) (HRL.out.up (by (repeat' (first | (with_reducible first | exact Below.refl _ _ | assumption | refine Below.alloc ?_ ?_ _ | refine below_drewN ?_ _ | refine below_drew ?_ | refine below_ext ?_ ?_ _ _ | refine Below.setCell ?_ ?_ _) | (simp; done) | (simp; omega) | omega))))).mono ?_); rintro e9 w1 ⟨rfl, hb1⟩; obtain ⟨osC, dC, rfl⟩ := ext_of_below hb1; clear hb1))
          all_goals
            go_wp2_with fail
            go_meet
            exact ⟨_, rfl, rfl, by (first | (simp; done) | (simp; omega) | omega), by (first | (simp; done) | (simp; omega)), by simp [go_sem], by simp [go_sem], Lib.hid (by (repeat' (first | (with_reducible first | exact Below.refl _ _ | assumption | refine Below.alloc ?_ ?_ _ | refine below_drewN ?_ _ | refine below_drew ?_ | refine below_ext ?_ ?_ _ _ | refine Below.setCell ?_ ?_ _) | (simp; done) | (simp; omega) | omega))), by (first | (simp; done) | (simp; omega)), by simp [go_sem]⟩
        case rest =>
          obtain ⟨b, rfl, rfl, hbr, hbl, b0, b1, hbx, hlx, nx⟩ := hcut
          have hsx := hbx.out.size
          clear r0 r1 r2 f0 f1 f2
          have q23 : (oa == 23) = false := beq_eq_false_iff_ne.2 ho23
          by_cases he0 : e = 0
          · subst he0
            go_upto_region 8 with fail
            refine wp_region_held_drew (S := fun w' => w'.cell? ⟨wr.heap.size, 0, none⟩ = some (.int .i64 oa)) (by kernel_rfl) ?r8axhSa (fun hHeld => ?r8axresta)
            case r8axhSa => ((try dsimp only); simp [go_sem, *])
            refine wpAnyH_take (i := 0) (oi := ({ dst := some 35, op := Op.move (Operand.tmp 12), type := 27, pos := "items.go:42", after := #[], guard := none } : Oper)) (v := ?r8axv1) rfl (by kernel_rfl) (by kernel_rfl) (by kernel_rfl) (fun _ _ _ h => h) (Or.inl ⟨by rfl, ?r8axhy1⟩) (by assumption) ?r8axre1
            case r8axhy1 => (intro w hSw; (try dsimp only at hSw); go_simp; try with_reducible rfl)
            (try simp only [Act.put, List.setIfInBounds_toArray, List.set_cons_zero, List.set_cons_succ])
            refine wpAnyH_take (i := 1) (oi := ({ dst := some 36, op := Op.binOp BinOp.eql 27 (Operand.tmp 35) (Operand.const (Value.int IntKind.i64 0)) 27, type := 4, pos := "items.go:42", after := #[{ on := 0, ground := Ground.data }], guard := none } : Oper)) (v := ?r8axv2) rfl (by kernel_rfl) (by kernel_rfl) (by kernel_rfl) (fun _ _ _ h => h) (Or.inl ⟨by rfl, ?r8axhy2⟩) (by assumption) ?r8axre2
            case r8axhy2 => (intro w hSw; (try dsimp only at hSw); go_simp; try with_reducible rfl)
            (try simp only [Act.put, List.setIfInBounds_toArray, List.set_cons_zero, List.set_cons_succ])
            refine wpAnyH_take (i := 2) (oi := ({ dst := some 37, op := Op.move (Operand.tmp 36), type := 4, pos := "items.go:42", after := #[{ on := 1, ground := Ground.data }], guard := none } : Oper)) (v := ?r8axv3) rfl (by kernel_rfl) (by kernel_rfl) (by kernel_rfl) (fun _ _ _ h => h) (Or.inl ⟨by rfl, ?r8axhy3⟩) (by assumption) ?r8axre3
            case r8axhy3 => (intro w hSw; (try dsimp only at hSw); go_simp; try with_reducible rfl)
            (try simp only [Act.put, List.setIfInBounds_toArray, List.set_cons_zero, List.set_cons_succ])
            refine wpAnyH_take (i := 3) (oi := ({ dst := some 38, op := Op.fieldAddr 39 (Operand.tmp 8) 0, type := 0, pos := "items.go:42", after := #[{ on := 2, ground := Ground.guard }], guard := some (2, true) } : Oper)) (v := ?r8axv4) rfl (by kernel_rfl) (by kernel_rfl) (by kernel_rfl) (fun _ _ _ h => h) (Or.inl ⟨by rfl, ?r8axhy4⟩) (by assumption) ?r8axre4
            case r8axhy4 => (intro w hSw; (try dsimp only at hSw); go_simp; try with_reducible rfl)
            (try simp only [Act.put, List.setIfInBounds_toArray, List.set_cons_zero, List.set_cons_succ])
            refine wpAnyH_take (i := 4) (oi := ({ dst := some 39, op := Op.load 3 (Operand.tmp 38), type := 3, pos := "items.go:42", after := #[{ on := 3, ground := Ground.data }, { on := 2, ground := Ground.guard }], guard := some (2, true) } : Oper)) (v := ?r8axv5) rfl (by kernel_rfl) (by kernel_rfl) (by kernel_rfl) (fun _ _ _ h => h) (Or.inl ⟨by rfl, ?r8axhy5⟩) (by assumption) ?r8axre5
            case r8axhy5 => (intro w hSw; (try dsimp only at hSw); go_simp; try with_reducible rfl)
            (try simp only [Act.put, List.setIfInBounds_toArray, List.set_cons_zero, List.set_cons_succ])
            refine wpAnyH_take (i := 5) (oi := ({ dst := some 40, op := Op.binOp BinOp.eql 3 (Operand.tmp 39) (Operand.const (Value.int IntKind.i64 23)) 3, type := 4, pos := "items.go:42", after := #[{ on := 4, ground := Ground.data }, { on := 2, ground := Ground.guard }], guard := some (2, true) } : Oper)) (v := ?r8axv6) rfl (by kernel_rfl) (by kernel_rfl) (by kernel_rfl) (fun _ _ _ h => h) (Or.inl ⟨by rfl, ?r8axhy6⟩) (by assumption) ?r8axre6
            case r8axhy6 => (intro w hSw; (try dsimp only at hSw); go_simp; try with_reducible rfl)
            (try simp only [Act.put, List.setIfInBounds_toArray, List.set_cons_zero, List.set_cons_succ])
            refine wpAnyH_take (i := 6) (oi := ({ dst := some 41, op := Op.pick (Operand.tmp 37) (Operand.tmp 40) (Operand.const (Value.bool false)), type := 4, pos := "items.go:42", after := #[{ on := 2, ground := Ground.data }, { on := 5, ground := Ground.data }], guard := none } : Oper)) (v := ?r8axv7) rfl (by kernel_rfl) (by kernel_rfl) (by kernel_rfl) (fun _ _ _ h => h) (Or.inl ⟨by rfl, ?r8axhy7⟩) (by assumption) ?r8axre7
            case r8axhy7 => (intro w hSw; (try dsimp only at hSw); go_simp; try with_reducible rfl)
            (try simp only [Act.put, List.setIfInBounds_toArray, List.set_cons_zero, List.set_cons_succ])
            refine wpAnyH_take (i := 7) (oi := ({ dst := some 42, op := Op.move (Operand.tmp 41), type := 4, pos := "items.go:42", after := #[{ on := 6, ground := Ground.data }, { on := 2, ground := Ground.chain }], guard := none } : Oper)) (v := ?r8axv8) rfl (by kernel_rfl) (by kernel_rfl) (by kernel_rfl) (fun _ _ _ h => h) (Or.inl ⟨by rfl, ?r8axhy8⟩) (by assumption) ?r8axre8
            case r8axhy8 => (intro w hSw; (try dsimp only at hSw); go_simp; try with_reducible rfl)
            (try simp only [Act.put, List.setIfInBounds_toArray, List.set_cons_zero, List.set_cons_succ])
            refine wpAnyH_take (i := 8) (oi := ({ dst := some 43, op := Op.move (Operand.tmp 10), type := 70, pos := "items.go:42", after := #[{ on := 7, ground := Ground.guard }], guard := some (7, true) } : Oper)) (v := undef) rfl (by kernel_rfl) (by kernel_rfl) (by kernel_rfl) (fun _ _ _ h => h) (Or.inr ⟨by rfl, rfl⟩) (by assumption) ?r8axre9
            (try simp only [Act.put, List.setIfInBounds_toArray, List.set_cons_zero, List.set_cons_succ])
            refine wpAnyH_take (i := 9) (oi := ({ dst := some 44, op := Op.indexAddr 70 (Operand.tmp 43) (Operand.const (Value.int IntKind.i64 1)), type := 0, pos := "items.go:42", after := #[{ on := 8, ground := Ground.data }, { on := 7, ground := Ground.guard }], guard := some (7, true) } : Oper)) (v := undef) rfl (by kernel_rfl) (by kernel_rfl) (by kernel_rfl) (fun _ _ _ h => h) (Or.inr ⟨by rfl, rfl⟩) (by assumption) ?r8axre10
            (try simp only [Act.put, List.setIfInBounds_toArray, List.set_cons_zero, List.set_cons_succ])
            refine wpAnyH_take (i := 10) (oi := ({ dst := some 45, op := Op.load 48 (Operand.tmp 44), type := 48, pos := "items.go:42", after := #[{ on := 9, ground := Ground.data }, { on := 7, ground := Ground.guard }], guard := some (7, true) } : Oper)) (v := undef) rfl (by kernel_rfl) (by kernel_rfl) (by kernel_rfl) (fun _ _ _ h => h) (Or.inr ⟨by rfl, rfl⟩) (by assumption) ?r8axre11
            (try simp only [Act.put, List.setIfInBounds_toArray, List.set_cons_zero, List.set_cons_succ])
            refine wpAnyH_take (i := 11) (oi := ({ dst := some 46, op := Op.move (Operand.tmp 10), type := 70, pos := "items.go:42", after := #[{ on := 7, ground := Ground.guard }], guard := some (7, true) } : Oper)) (v := undef) rfl (by kernel_rfl) (by kernel_rfl) (by kernel_rfl) (fun _ _ _ h => h) (Or.inr ⟨by rfl, rfl⟩) (by assumption) ?r8axre12
            (try simp only [Act.put, List.setIfInBounds_toArray, List.set_cons_zero, List.set_cons_succ])
            refine wpAnyH_take (i := 12) (oi := ({ dst := some 47, op := Op.indexAddr 70 (Operand.tmp 46) (Operand.const (Value.int IntKind.i64 0)), type := 0, pos := "items.go:42", after := #[{ on := 11, ground := Ground.data }, { on := 7, ground := Ground.guard }], guard := some (7, true) } : Oper)) (v := undef) rfl (by kernel_rfl) (by kernel_rfl) (by kernel_rfl) (fun _ _ _ h => h) (Or.inr ⟨by rfl, rfl⟩) (by assumption) ?r8axre13
            (try simp only [Act.put, List.setIfInBounds_toArray, List.set_cons_zero, List.set_cons_succ])
            refine wpAnyH_take (i := 13) (oi := ({ dst := some 48, op := Op.fieldAddr 48 (Operand.tmp 47) 0, type := 0, pos := "items.go:42", after := #[{ on := 12, ground := Ground.data }, { on := 7, ground := Ground.guard }], guard := some (7, true) } : Oper)) (v := undef) rfl (by kernel_rfl) (by kernel_rfl) (by kernel_rfl) (fun _ _ _ h => h) (Or.inr ⟨by rfl, rfl⟩) (by assumption) ?r8axre14
            (try simp only [Act.put, List.setIfInBounds_toArray, List.set_cons_zero, List.set_cons_succ])
            refine wpAnyH_take (i := 14) (oi := ({ dst := some 49, op := Op.load 26 (Operand.tmp 48), type := 26, pos := "items.go:42", after := #[{ on := 13, ground := Ground.data }, { on := 7, ground := Ground.guard }], guard := some (7, true) } : Oper)) (v := undef) rfl (by kernel_rfl) (by kernel_rfl) (by kernel_rfl) (fun _ _ _ h => h) (Or.inr ⟨by rfl, rfl⟩) (by assumption) ?r8axre15
            (try simp only [Act.put, List.setIfInBounds_toArray, List.set_cons_zero, List.set_cons_succ])
            refine wpAnyH_take (i := 15) (oi := ({ dst := some 50, op := Op.call { callee := Callee.value (Operand.func 17), args := #[Operand.tmp 45, Operand.tmp 49], argTypes := #[48, 26] }, type := 4, pos := "items.go:42", after := #[{ on := 10, ground := Ground.data }, { on := 14, ground := Ground.data }, { on := 7, ground := Ground.chain }, { on := 7, ground := Ground.guard }], guard := some (7, true) } : Oper)) (v := undef) rfl (by kernel_rfl) (by kernel_rfl) (by kernel_rfl) (fun _ _ _ h => h) (Or.inr ⟨by rfl, rfl⟩) (by assumption) ?r8axre16
            (try simp only [Act.put, List.setIfInBounds_toArray, List.set_cons_zero, List.set_cons_succ])
            refine wpAnyH_take (i := 16) (oi := ({ dst := some 51, op := Op.unOp UnOp.not 4 (Operand.tmp 50), type := 4, pos := "items.go:42", after := #[{ on := 15, ground := Ground.data }, { on := 7, ground := Ground.guard }], guard := some (7, true) } : Oper)) (v := undef) rfl (by kernel_rfl) (by kernel_rfl) (by kernel_rfl) (fun _ _ _ h => h) (Or.inr ⟨by rfl, rfl⟩) (by assumption) ?r8axre17
            (try simp only [Act.put, List.setIfInBounds_toArray, List.set_cons_zero, List.set_cons_succ])
            refine wpAnyH_take (i := 17) (oi := ({ dst := some 52, op := Op.pick (Operand.tmp 42) (Operand.tmp 51) (Operand.const (Value.bool false)), type := 4, pos := "items.go:42", after := #[{ on := 7, ground := Ground.data }, { on := 16, ground := Ground.data }], guard := none } : Oper)) (v := ?r8axv18) rfl (by kernel_rfl) (by kernel_rfl) (by kernel_rfl) (fun _ _ _ h => h) (Or.inl ⟨by rfl, ?r8axhy18⟩) (by assumption) ?r8axre18
            case r8axhy18 => (intro w hSw; (try dsimp only at hSw); go_simp; try with_reducible rfl)
            (try simp only [Act.put, List.setIfInBounds_toArray, List.set_cons_zero, List.set_cons_succ])
            refine wpAnyH_done (by kernel_rfl) ?_ _
            clear hHeld
            go_upto_region 12 with fail
            obtain ⟨st1, hst1⟩ : ∃ st1, st1 = st.take r := ⟨_, rfl⟩
            rw [← hst1] at HOL3 HGO
            have HL1 := Lib.hid (show st1.length = r by rw [hst1, List.length_take, ← HSN.out]; omega)
            have HRUN := Lib.hid (HGO.out rfl)
            have HKB := Lib.hid (show ∀ w', Below wc.heap.size wc w' → w'.cell? ⟨wr.heap.size, 0, none⟩ = some (.int .i64 oa) ∧ w'.cell? ⟨b, 0, none⟩ = some (.int .i64 t1) ∧ w'.cell? ⟨b, 1, none⟩ = some (.int .i64 t2) from fun w' h => ⟨(h.cell (p := ⟨_, _, none⟩) hlx).trans nx, (h.cell (p := ⟨_, _, none⟩) hbl).trans b0, (h.cell (p := ⟨_, _, none⟩) hbl).trans b1⟩)
            have HKT := Lib.hid (show ∀ wB, Below wc.heap.size wc wB → ∀ w2, Ot (fun k => (Value.slice q r cp).ownBlock = some k) wB w2 → w2.cell? ⟨wr.heap.size, 0, none⟩ = some (.int .i64 oa) ∧ w2.cell? ⟨b, 0, none⟩ = some (.int .i64 t1) ∧ w2.cell? ⟨b, 1, none⟩ = some (.int .i64 t2) from fun wB h w2 ho => by
              obtain ⟨k0, k1, k2⟩ := HKB.out wB h
              have hb9 := h.size
              exact ⟨(ho.cell (by omega) (fun e => by have := HOWN2.out _ _ e; omega)).trans k0, (ho.cell (by omega) (fun e => by have := HOWN2.out _ _ e; omega)).trans k1, (ho.cell (by omega) (fun e => by have := HOWN2.out _ _ e; omega)).trans k2⟩)
            clear hst1
            have hrcp : r ≤ cp := by omega
            have hrcp2 : (r : Int) ≤ (cp : Int) := by omega
            refine wp_region_held_drew (S := fun w' => w'.cell? ⟨wr.heap.size, 0, none⟩ = some (.int .i64 oa) ∧ w'.cell? ⟨b, 0, none⟩ = some (.int .i64 t1) ∧ w'.cell? ⟨b, 1, none⟩ = some (.int .i64 t2)) (by kernel_rfl) ?r12xhSa (fun hHeld => ?r12xresta)
            case r12xhSa => ((try dsimp only); first | exact HKB.out _ (by (repeat' (first | (with_reducible first | exact Below.refl _ _ | assumption | refine Below.alloc ?_ ?_ _ | refine below_drewN ?_ _ | refine below_drew ?_ | refine below_ext ?_ ?_ _ _ | refine Below.setCell ?_ ?_ _) | (simp; done) | (simp; omega) | omega))) | exact HKB.out _ (HBB.out.trans (by (repeat' (first | (with_reducible first | exact Below.refl _ _ | assumption | refine Below.alloc ?_ ?_ _ | refine below_drewN ?_ _ | refine below_drew ?_ | refine below_ext ?_ ?_ _ _ | refine Below.setCell ?_ ?_ _) | (simp; done) | (simp; omega) | omega)))))
            refine wpAnyH_take (i := 0) (oi := ({ dst := some 57, op := Op.move (Operand.tmp 6), type := 70, pos := "items.go:48", after := #[], guard := none } : Oper)) (v := ?r12xv1) rfl (by kernel_rfl) (by kernel_rfl) (by kernel_rfl) (fun _ _ _ h => h) (Or.inl ⟨by rfl, ?r12xhy1⟩) (by assumption) ?r12xre1
            case r12xhy1 => (intro w hSw; (try dsimp only at hSw); go_simp; try with_reducible rfl)
            (try simp only [Act.put, List.setIfInBounds_toArray, List.set_cons_zero, List.set_cons_succ])
            refine wpAnyH_take (i := 1) (oi := ({ dst := some 58, op := Op.move (Operand.tmp 9), type := 3, pos := "items.go:48", after := #[], guard := none } : Oper)) (v := ?r12xv2) rfl (by kernel_rfl) (by kernel_rfl) (by kernel_rfl) (fun _ _ _ h => h) (Or.inl ⟨by rfl, ?r12xhy2⟩) (by assumption) ?r12xre2
            case r12xhy2 => (intro w hSw; (try dsimp only at hSw); go_simp; try with_reducible rfl)
            (try simp only [Act.put, List.setIfInBounds_toArray, List.set_cons_zero, List.set_cons_succ])
            refine wpAnyH_take (i := 2) (oi := ({ dst := some 59, op := Op.slice 70 (Operand.tmp 57) none (some (Operand.tmp 58)) none, type := 70, pos := "items.go:48", after := #[{ on := 0, ground := Ground.data }, { on := 1, ground := Ground.data }], guard := none } : Oper)) (v := ?r12xv3) rfl (by kernel_rfl) (by kernel_rfl) (by kernel_rfl) (fun _ _ _ h => h) (Or.inl ⟨by rfl, ?r12xhy3⟩) (by assumption) ?r12xre3
            case r12xhy3 => (intro w hSw; (try dsimp only at hSw); go_simp; try with_reducible rfl)
            (try simp only [Act.put, List.setIfInBounds_toArray, List.set_cons_zero, List.set_cons_succ])
            refine wpAnyH_take (i := 3) (oi := ({ dst := some 60, op := Op.load 26 (Operand.tmp 11), type := 26, pos := "items.go:48", after := #[], guard := none } : Oper)) (v := ?r12xv4) rfl (by kernel_rfl) (by kernel_rfl) (by kernel_rfl) (fun _ _ _ h => h) (Or.inl ⟨by rfl, ?r12xhy4⟩) (by assumption) ?r12xre4
            case r12xhy4 => (intro w hSw; (try dsimp only at hSw); go_simp; try with_reducible rfl)
            (try simp only [Act.put, List.setIfInBounds_toArray, List.set_cons_zero, List.set_cons_succ])
            refine wpAnyH_take (i := 4) (oi := ({ dst := some 61, op := Op.fieldAddr 39 (Operand.tmp 8) 0, type := 0, pos := "items.go:48", after := #[], guard := none } : Oper)) (v := ?r12xv5) rfl (by kernel_rfl) (by kernel_rfl) (by kernel_rfl) (fun _ _ _ h => h) (Or.inl ⟨by rfl, ?r12xhy5⟩) (by assumption) ?r12xre5
            case r12xhy5 => (intro w hSw; (try dsimp only at hSw); go_simp; try with_reducible rfl)
            (try simp only [Act.put, List.setIfInBounds_toArray, List.set_cons_zero, List.set_cons_succ])
            refine wpAnyH_take (i := 5) (oi := ({ dst := some 62, op := Op.load 3 (Operand.tmp 61), type := 3, pos := "items.go:48", after := #[{ on := 4, ground := Ground.data }], guard := none } : Oper)) (v := ?r12xv6) rfl (by kernel_rfl) (by kernel_rfl) (by kernel_rfl) (fun _ _ _ h => h) (Or.inl ⟨by rfl, ?r12xhy6⟩) (by assumption) ?r12xre6
            case r12xhy6 => (intro w hSw; (try dsimp only at hSw); go_simp; try with_reducible rfl)
            (try simp only [Act.put, List.setIfInBounds_toArray, List.set_cons_zero, List.set_cons_succ])
            refine wpAnyH_take (i := 6) (oi := ({ dst := some 63, op := Op.move (Operand.tmp 10), type := 70, pos := "items.go:48", after := #[], guard := none } : Oper)) (v := ?r12xv7) rfl (by kernel_rfl) (by kernel_rfl) (by kernel_rfl) (fun _ _ _ h => h) (Or.inl ⟨by rfl, ?r12xhy7⟩) (by assumption) ?r12xre7
            case r12xhy7 => (intro w hSw; (try dsimp only at hSw); go_simp; try with_reducible rfl)
            (try simp only [Act.put, List.setIfInBounds_toArray, List.set_cons_zero, List.set_cons_succ])
            refine wpAnyH_ready (rs := [7]) (by kernel_rfl) (by simp) ?_
            refine AllReadyH.cons (o := ({ dst := some 64, op := Op.call { callee := Callee.value (Operand.func 32), args := #[Operand.tmp 62, Operand.tmp 63], argTypes := #[3, 70] }, type := 46, pos := "items.go:48", after := #[{ on := 5, ground := Ground.data }, { on := 6, ground := Ground.data }], guard := none } : Oper)) rfl (fun K hK => ?_) AllReadyH.nil
            go_simp
            (go_at_call 32; (with_reducible refine (HAS.out _ (hbx.out.trans (by (repeat' (first | (with_reducible first | exact Below.refl _ _ | assumption | refine Below.alloc ?_ ?_ _ | refine below_drewN ?_ _ | refine below_drew ?_ | refine below_ext ?_ ?_ _ _ | refine Below.setCell ?_ ?_ _) | (simp; done) | (simp; omega) | omega))))).mono ?_); rintro e9 wB ⟨rfl, hbB⟩; have HBB := Lib.hid (show Below wc.heap.size wc wB from (show Below wc.heap.size wc _ by (repeat' (first | (with_reducible first | exact Below.refl _ _ | assumption | refine Below.alloc ?_ ?_ _ | refine below_drewN ?_ _ | refine below_drew ?_ | refine below_ext ?_ ?_ _ _ | refine Below.setCell ?_ ?_ _) | (simp; done) | (simp; omega) | omega))).trans (hbB.mono (by first | (simp; done) | (simp; omega)))); have hsB := HBB.out.size; clear hbB)
            refine hK.out _ _ ?r12xhS8 (fun hHeldN => ?r12xrst8)
            case r12xhS8 => ((try dsimp only); exact HKB.out _ HBB.out)
            clear hHeld hK K
            have hHeld := hHeldN
            clear hHeldN
            refine wpAnyH_take (i := 8) (oi := ({ dst := some 65, op := Op.build 48 #[(0, Operand.tmp 60), (1, Operand.tmp 64)], type := 48, pos := "items.go:48", after := #[{ on := 3, ground := Ground.data }, { on := 7, ground := Ground.data }], guard := none } : Oper)) (v := ?r12xv9) rfl (by kernel_rfl) (by kernel_rfl) (by kernel_rfl) (fun _ _ _ h => h) (Or.inl ⟨by rfl, ?r12xhy9⟩) (by assumption) ?r12xre9
            case r12xhy9 => (intro w hSw; (try dsimp only at hSw); go_simp; try with_reducible rfl)
            (try simp only [Act.put, List.setIfInBounds_toArray, List.set_cons_zero, List.set_cons_succ])
            refine wpAnyH_ready (rs := [9]) (by kernel_rfl) (by simp) ?_
            refine AllReadyH.cons (o := ({ dst := some 66, op := Op.buildSlice 70 1 #[(0, Operand.tmp 65)], type := 70, pos := "items.go:48", after := #[{ on := 8, ground := Ground.data }], guard := none } : Oper)) rfl (fun K hK => ?_) AllReadyH.nil
            go_simp
            refine hK.out _ _ ?r12xhS10 (fun hHeldN => ?r12xrst10)
            case r12xhS10 => ((try dsimp only); exact HKB.out _ (HBB.out.trans (by (repeat' (first | (with_reducible first | exact Below.refl _ _ | assumption | refine Below.alloc ?_ ?_ _ | refine below_drewN ?_ _ | refine below_drew ?_ | refine below_ext ?_ ?_ _ _ | refine Below.setCell ?_ ?_ _) | (simp; done) | (simp; omega) | omega)))))
            clear hHeld hK K
            have hHeld := hHeldN
            clear hHeldN
            (try simp only [Act.put, List.setIfInBounds_toArray, List.set_cons_zero, List.set_cons_succ])
            refine wpAnyH_ready (rs := [10]) (by kernel_rfl) (by simp) ?_
            refine AllReadyH.cons (o := ({ dst := some 67, op := Op.call { callee := Callee.builtin Builtin.append, args := #[Operand.tmp 59, Operand.tmp 66], argTypes := #[70, 70] }, type := 70, pos := "items.go:48", after := #[{ on := 2, ground := Ground.data }, { on := 9, ground := Ground.data }, { on := 7, ground := Ground.chain }], guard := none } : Oper)) rfl (fun K hK => ?_) AllReadyH.nil
            (refine step_append_ol tcK_ok tcE_cells rfl (.tmp 59) (.tmp 66) rfl rfl wB (t1, t2) (by (repeat' (first | (with_reducible first | exact Below.refl _ _ | assumption | refine Below.alloc ?_ ?_ _ | refine below_drewN ?_ _ | refine below_drew ?_ | refine below_ext ?_ ?_ _ _ | refine Below.setCell ?_ ?_ _) | (simp; done) | (simp; omega) | omega))) (gr := wB.heap.size) (by exact heap_alloc_new wB _) (HOL3.out wB (hbx.out.trans (HBB.out.mono hsx))) (by simp [Act.eval]) (by have := HL1.out; omega) (by have := HBB.out.size; omega) ?_; intro g2 cap2 w2 hob3 hoth hat hg2 hsz2; have HO2 := Lib.hid hob3; have HT2 := Lib.hid hoth; clear hob3 hoth hat)
            refine hK.out _ _ ?r12xhS11 (fun hHeldN => ?r12xrst11)
            case r12xhS11 => ((try dsimp only); exact HKT.out _ HBB.out _ HT2.out)
            clear hHeld hK K
            have hHeld := hHeldN
            clear hHeldN
            refine wpAnyH_take (i := 11) (oi := ({ dst := some 6, op := Op.assign (Operand.tmp 67), type := 70, pos := "items.go:48", after := #[{ on := 10, ground := Ground.data }, { on := 10, ground := Ground.chain }, { on := 0, ground := Ground.phase }, { on := 1, ground := Ground.phase }, { on := 2, ground := Ground.phase }, { on := 3, ground := Ground.phase }, { on := 4, ground := Ground.phase }, { on := 5, ground := Ground.phase }, { on := 6, ground := Ground.phase }, { on := 7, ground := Ground.phase }, { on := 8, ground := Ground.phase }, { on := 9, ground := Ground.phase }, { on := 10, ground := Ground.phase }], guard := none } : Oper)) (v := ?r12xv12) rfl (by kernel_rfl) (by kernel_rfl) (by kernel_rfl) (fun _ _ _ h => h) (Or.inl ⟨by rfl, ?r12xhy12⟩) (by assumption) ?r12xre12
            case r12xhy12 => (intro w hSw; (try dsimp only at hSw); go_simp; try with_reducible rfl)
            (try simp only [Act.put, List.setIfInBounds_toArray, List.set_cons_zero, List.set_cons_succ])
            refine wpAnyH_done (by kernel_rfl) ?_ _
            clear hHeld
            go_wp2
            obtain ⟨y0, y1, y2, y3, y4, y5, y6⟩ := HKR.out wB (hbx.out.trans (HBB.out.mono hsx))
            have hn9 : ¬ (Value.slice q r cp).ownBlock = some w.heap.size := fun e => by have := HOWN.out _ _ e; omega
            have hbT := HT2.out.below (n := w.heap.size) (by omega) (fun k hk => by have := HOWN.out _ _ hk; omega)
            have c9 := fun j => HT2.out.cell (j := j) y0 hn9
            have d9 := fun j => HT2.out.frozen (j := j) y0 hn9
            go_roundw
            case rel => exact ⟨i + 1, st1 ++ [(t1, t2)], by go_num, by omega, by rw [List.length_append, List.length_singleton]; have := HL1.out; omega, HO2, Lib.hid (HBR.out.trans ((hbx.out.mono hsw).trans ((HBB.out.mono (by omega)).trans hbT))), by omega, HRUN, (c9 _).trans y1, (c9 _).trans y2, (c9 _).trans y3, (d9 _).trans y4, (d9 _).trans y5, (d9 _).trans y6⟩
            case measure => simp [intOf]; omega
          · have qe : (e == 0) = false := beq_eq_false_iff_ne.2 he0
            obtain ⟨hres, herr⟩ := HNO.out he0
            go_upto_region 8 with fail
            refine wp_region_held_drew (S := fun w' => w'.cell? ⟨wr.heap.size, 0, none⟩ = some (.int .i64 oa)) (by kernel_rfl) ?r8bxhSa (fun hHeld => ?r8bxresta)
            case r8bxhSa => ((try dsimp only); simp [go_sem, *])
            refine wpAnyH_take (i := 0) (oi := ({ dst := some 35, op := Op.move (Operand.tmp 12), type := 27, pos := "items.go:42", after := #[], guard := none } : Oper)) (v := ?r8bxv1) rfl (by kernel_rfl) (by kernel_rfl) (by kernel_rfl) (fun _ _ _ h => h) (Or.inl ⟨by rfl, ?r8bxhy1⟩) (by assumption) ?r8bxre1
            case r8bxhy1 => (intro w hSw; (try dsimp only at hSw); go_simp; try with_reducible rfl)
            (try simp only [Act.put, List.setIfInBounds_toArray, List.set_cons_zero, List.set_cons_succ])
            refine wpAnyH_take (i := 1) (oi := ({ dst := some 36, op := Op.binOp BinOp.eql 27 (Operand.tmp 35) (Operand.const (Value.int IntKind.i64 0)) 27, type := 4, pos := "items.go:42", after := #[{ on := 0, ground := Ground.data }], guard := none } : Oper)) (v := ?r8bxv2) rfl (by kernel_rfl) (by kernel_rfl) (by kernel_rfl) (fun _ _ _ h => h) (Or.inl ⟨by rfl, ?r8bxhy2⟩) (by assumption) ?r8bxre2
            case r8bxhy2 => (intro w hSw; (try dsimp only at hSw); go_simp; try with_reducible rfl)
            (try simp only [Act.put, List.setIfInBounds_toArray, List.set_cons_zero, List.set_cons_succ])
            refine wpAnyH_take (i := 2) (oi := ({ dst := some 37, op := Op.move (Operand.tmp 36), type := 4, pos := "items.go:42", after := #[{ on := 1, ground := Ground.data }], guard := none } : Oper)) (v := ?r8bxv3) rfl (by kernel_rfl) (by kernel_rfl) (by kernel_rfl) (fun _ _ _ h => h) (Or.inl ⟨by rfl, ?r8bxhy3⟩) (by assumption) ?r8bxre3
            case r8bxhy3 => (intro w hSw; (try dsimp only at hSw); go_simp; try with_reducible rfl)
            (try simp only [Act.put, List.setIfInBounds_toArray, List.set_cons_zero, List.set_cons_succ])
            refine wpAnyH_take (i := 3) (oi := ({ dst := some 38, op := Op.fieldAddr 39 (Operand.tmp 8) 0, type := 0, pos := "items.go:42", after := #[{ on := 2, ground := Ground.guard }], guard := some (2, true) } : Oper)) (v := undef) rfl (by kernel_rfl) (by kernel_rfl) (by kernel_rfl) (fun _ _ _ h => h) (Or.inr ⟨by rfl, rfl⟩) (by assumption) ?r8bxre4
            (try simp only [Act.put, List.setIfInBounds_toArray, List.set_cons_zero, List.set_cons_succ])
            refine wpAnyH_take (i := 4) (oi := ({ dst := some 39, op := Op.load 3 (Operand.tmp 38), type := 3, pos := "items.go:42", after := #[{ on := 3, ground := Ground.data }, { on := 2, ground := Ground.guard }], guard := some (2, true) } : Oper)) (v := undef) rfl (by kernel_rfl) (by kernel_rfl) (by kernel_rfl) (fun _ _ _ h => h) (Or.inr ⟨by rfl, rfl⟩) (by assumption) ?r8bxre5
            (try simp only [Act.put, List.setIfInBounds_toArray, List.set_cons_zero, List.set_cons_succ])
            refine wpAnyH_take (i := 5) (oi := ({ dst := some 40, op := Op.binOp BinOp.eql 3 (Operand.tmp 39) (Operand.const (Value.int IntKind.i64 23)) 3, type := 4, pos := "items.go:42", after := #[{ on := 4, ground := Ground.data }, { on := 2, ground := Ground.guard }], guard := some (2, true) } : Oper)) (v := undef) rfl (by kernel_rfl) (by kernel_rfl) (by kernel_rfl) (fun _ _ _ h => h) (Or.inr ⟨by rfl, rfl⟩) (by assumption) ?r8bxre6
            (try simp only [Act.put, List.setIfInBounds_toArray, List.set_cons_zero, List.set_cons_succ])
            refine wpAnyH_take (i := 6) (oi := ({ dst := some 41, op := Op.pick (Operand.tmp 37) (Operand.tmp 40) (Operand.const (Value.bool false)), type := 4, pos := "items.go:42", after := #[{ on := 2, ground := Ground.data }, { on := 5, ground := Ground.data }], guard := none } : Oper)) (v := ?r8bxv7) rfl (by kernel_rfl) (by kernel_rfl) (by kernel_rfl) (fun _ _ _ h => h) (Or.inl ⟨by rfl, ?r8bxhy7⟩) (by assumption) ?r8bxre7
            case r8bxhy7 => (intro w hSw; (try dsimp only at hSw); go_simp; try with_reducible rfl)
            (try simp only [Act.put, List.setIfInBounds_toArray, List.set_cons_zero, List.set_cons_succ])
            refine wpAnyH_take (i := 7) (oi := ({ dst := some 42, op := Op.move (Operand.tmp 41), type := 4, pos := "items.go:42", after := #[{ on := 6, ground := Ground.data }, { on := 2, ground := Ground.chain }], guard := none } : Oper)) (v := ?r8bxv8) rfl (by kernel_rfl) (by kernel_rfl) (by kernel_rfl) (fun _ _ _ h => h) (Or.inl ⟨by rfl, ?r8bxhy8⟩) (by assumption) ?r8bxre8
            case r8bxhy8 => (intro w hSw; (try dsimp only at hSw); go_simp; try with_reducible rfl)
            (try simp only [Act.put, List.setIfInBounds_toArray, List.set_cons_zero, List.set_cons_succ])
            refine wpAnyH_take (i := 8) (oi := ({ dst := some 43, op := Op.move (Operand.tmp 10), type := 70, pos := "items.go:42", after := #[{ on := 7, ground := Ground.guard }], guard := some (7, true) } : Oper)) (v := undef) rfl (by kernel_rfl) (by kernel_rfl) (by kernel_rfl) (fun _ _ _ h => h) (Or.inr ⟨by rfl, rfl⟩) (by assumption) ?r8bxre9
            (try simp only [Act.put, List.setIfInBounds_toArray, List.set_cons_zero, List.set_cons_succ])
            refine wpAnyH_take (i := 9) (oi := ({ dst := some 44, op := Op.indexAddr 70 (Operand.tmp 43) (Operand.const (Value.int IntKind.i64 1)), type := 0, pos := "items.go:42", after := #[{ on := 8, ground := Ground.data }, { on := 7, ground := Ground.guard }], guard := some (7, true) } : Oper)) (v := undef) rfl (by kernel_rfl) (by kernel_rfl) (by kernel_rfl) (fun _ _ _ h => h) (Or.inr ⟨by rfl, rfl⟩) (by assumption) ?r8bxre10
            (try simp only [Act.put, List.setIfInBounds_toArray, List.set_cons_zero, List.set_cons_succ])
            refine wpAnyH_take (i := 10) (oi := ({ dst := some 45, op := Op.load 48 (Operand.tmp 44), type := 48, pos := "items.go:42", after := #[{ on := 9, ground := Ground.data }, { on := 7, ground := Ground.guard }], guard := some (7, true) } : Oper)) (v := undef) rfl (by kernel_rfl) (by kernel_rfl) (by kernel_rfl) (fun _ _ _ h => h) (Or.inr ⟨by rfl, rfl⟩) (by assumption) ?r8bxre11
            (try simp only [Act.put, List.setIfInBounds_toArray, List.set_cons_zero, List.set_cons_succ])
            refine wpAnyH_take (i := 11) (oi := ({ dst := some 46, op := Op.move (Operand.tmp 10), type := 70, pos := "items.go:42", after := #[{ on := 7, ground := Ground.guard }], guard := some (7, true) } : Oper)) (v := undef) rfl (by kernel_rfl) (by kernel_rfl) (by kernel_rfl) (fun _ _ _ h => h) (Or.inr ⟨by rfl, rfl⟩) (by assumption) ?r8bxre12
            (try simp only [Act.put, List.setIfInBounds_toArray, List.set_cons_zero, List.set_cons_succ])
            refine wpAnyH_take (i := 12) (oi := ({ dst := some 47, op := Op.indexAddr 70 (Operand.tmp 46) (Operand.const (Value.int IntKind.i64 0)), type := 0, pos := "items.go:42", after := #[{ on := 11, ground := Ground.data }, { on := 7, ground := Ground.guard }], guard := some (7, true) } : Oper)) (v := undef) rfl (by kernel_rfl) (by kernel_rfl) (by kernel_rfl) (fun _ _ _ h => h) (Or.inr ⟨by rfl, rfl⟩) (by assumption) ?r8bxre13
            (try simp only [Act.put, List.setIfInBounds_toArray, List.set_cons_zero, List.set_cons_succ])
            refine wpAnyH_take (i := 13) (oi := ({ dst := some 48, op := Op.fieldAddr 48 (Operand.tmp 47) 0, type := 0, pos := "items.go:42", after := #[{ on := 12, ground := Ground.data }, { on := 7, ground := Ground.guard }], guard := some (7, true) } : Oper)) (v := undef) rfl (by kernel_rfl) (by kernel_rfl) (by kernel_rfl) (fun _ _ _ h => h) (Or.inr ⟨by rfl, rfl⟩) (by assumption) ?r8bxre14
            (try simp only [Act.put, List.setIfInBounds_toArray, List.set_cons_zero, List.set_cons_succ])
            refine wpAnyH_take (i := 14) (oi := ({ dst := some 49, op := Op.load 26 (Operand.tmp 48), type := 26, pos := "items.go:42", after := #[{ on := 13, ground := Ground.data }, { on := 7, ground := Ground.guard }], guard := some (7, true) } : Oper)) (v := undef) rfl (by kernel_rfl) (by kernel_rfl) (by kernel_rfl) (fun _ _ _ h => h) (Or.inr ⟨by rfl, rfl⟩) (by assumption) ?r8bxre15
            (try simp only [Act.put, List.setIfInBounds_toArray, List.set_cons_zero, List.set_cons_succ])
            refine wpAnyH_take (i := 15) (oi := ({ dst := some 50, op := Op.call { callee := Callee.value (Operand.func 17), args := #[Operand.tmp 45, Operand.tmp 49], argTypes := #[48, 26] }, type := 4, pos := "items.go:42", after := #[{ on := 10, ground := Ground.data }, { on := 14, ground := Ground.data }, { on := 7, ground := Ground.chain }, { on := 7, ground := Ground.guard }], guard := some (7, true) } : Oper)) (v := undef) rfl (by kernel_rfl) (by kernel_rfl) (by kernel_rfl) (fun _ _ _ h => h) (Or.inr ⟨by rfl, rfl⟩) (by assumption) ?r8bxre16
            (try simp only [Act.put, List.setIfInBounds_toArray, List.set_cons_zero, List.set_cons_succ])
            refine wpAnyH_take (i := 16) (oi := ({ dst := some 51, op := Op.unOp UnOp.not 4 (Operand.tmp 50), type := 4, pos := "items.go:42", after := #[{ on := 15, ground := Ground.data }, { on := 7, ground := Ground.guard }], guard := some (7, true) } : Oper)) (v := undef) rfl (by kernel_rfl) (by kernel_rfl) (by kernel_rfl) (fun _ _ _ h => h) (Or.inr ⟨by rfl, rfl⟩) (by assumption) ?r8bxre17
            (try simp only [Act.put, List.setIfInBounds_toArray, List.set_cons_zero, List.set_cons_succ])
            refine wpAnyH_take (i := 17) (oi := ({ dst := some 52, op := Op.pick (Operand.tmp 42) (Operand.tmp 51) (Operand.const (Value.bool false)), type := 4, pos := "items.go:42", after := #[{ on := 7, ground := Ground.data }, { on := 16, ground := Ground.data }], guard := none } : Oper)) (v := ?r8bxv18) rfl (by kernel_rfl) (by kernel_rfl) (by kernel_rfl) (fun _ _ _ h => h) (Or.inl ⟨by rfl, ?r8bxhy18⟩) (by assumption) ?r8bxre18
            case r8bxhy18 => (intro w hSw; (try dsimp only at hSw); go_simp; try with_reducible rfl)
            (try simp only [Act.put, List.setIfInBounds_toArray, List.set_cons_zero, List.set_cons_succ])
            refine wpAnyH_done (by kernel_rfl) ?_ _
            clear hHeld
            go_upto_region 11 with fail
            refine cutX (fun W3 => Below w.heap.size w W3 ∧ w.heap.size < W3.heap.size ∧ W3.cell? ⟨w.heap.size, 0, none⟩ = some (.int .i64 0) ∧ W3.cell? ⟨w.heap.size, 1, none⟩ = some (.int .i64 0) ∧ W3.cell? ⟨w.heap.size, 2, none⟩ = some (.slice none 0 0) ∧ W3.frozen? ⟨w.heap.size, 0, none⟩ = false ∧ W3.frozen? ⟨w.heap.size, 1, none⟩ = false ∧ W3.frozen? ⟨w.heap.size, 2, none⟩ = false) ⟨HBR.out.trans ((hbx.out.mono hsw).trans (by (repeat' (first | (with_reducible first | exact Below.refl _ _ | assumption | refine Below.alloc ?_ ?_ _ | refine below_drewN ?_ _ | refine below_drew ?_ | refine below_ext ?_ ?_ _ _ | refine Below.setCell ?_ ?_ _) | (simp; done) | (simp; omega) | omega)))), HKR.out _ (hbx.out.trans (by (repeat' (first | (with_reducible first | exact Below.refl _ _ | assumption | refine Below.alloc ?_ ?_ _ | refine below_drewN ?_ _ | refine below_drew ?_ | refine below_ext ?_ ?_ _ _ | refine Below.setCell ?_ ?_ _) | (simp; done) | (simp; omega) | omega))))⟩ ?_
            intro W3 ⟨hb3, hs3, r0, r1, r2, f0, f1, f2⟩
            have s0 : (W3.setCell ⟨w.heap.size, 0, none⟩ (.int .i64 0)).cell? ⟨w.heap.size, 0, none⟩ = some (.int .i64 0) := World.cell?_setCell_same _ _ _ r0
            have s1 : ((W3.setCell ⟨w.heap.size, 0, none⟩ (.int .i64 0)).setCell ⟨w.heap.size, 1, none⟩ (.int .i64 0)).cell? ⟨w.heap.size, 1, none⟩ = some (.int .i64 0) := World.cell?_setCell_same _ _ _ ((World.cell?_setCell_other _ _ _ _ (by intro e2; injection e2 with _ e3; exact absurd e3 (by decide))).trans r1)
            have s2 : (((W3.setCell ⟨w.heap.size, 0, none⟩ (.int .i64 0)).setCell ⟨w.heap.size, 1, none⟩ (.int .i64 0)).setCell ⟨w.heap.size, 2, none⟩ (.slice none 0 0)).cell? ⟨w.heap.size, 2, none⟩ = some (.slice none 0 0) := World.cell?_setCell_same _ _ _ ((World.cell?_setCell_other _ _ _ _ (by intro e2; injection e2 with _ e3; exact absurd e3 (by decide))).trans ((World.cell?_setCell_other _ _ _ _ (by intro e2; injection e2 with _ e3; exact absurd e3 (by decide))).trans r2))
            go_wp2
            refine bodyPost_ret (by simp [results, Tryz.results15, go_sem, s0, s1, s2]; try rfl) rfl ?_
            rw [herr, hres]
            exact ⟨rfl, hb3.trans (by (repeat' (first | (with_reducible first | exact Below.refl _ _ | assumption | refine Below.alloc ?_ ?_ _ | refine below_drewN ?_ _ | refine below_drew ?_ | refine below_ext ?_ ?_ _ _ | refine Below.setCell ?_ ?_ _) | (simp; done) | (simp; omega) | omega)))⟩
    · obtain rfl : i = len := by omega
      have hii : ¬ (i : Int) < i := by omega
      have hru2 := hru.out
      rw [List.drop_eq_nil_of_le (by rw [← HL.out]; exact Nat.le_refl _)] at hru2
      obtain ⟨rfl, rr, rfl⟩ := hru2
      obtain ⟨k1, k2⟩ := res
      have hsn1 : 0 < sn := by rw [HSN.out]; simp
      have hsn2 : (0 : Int) < (sn : Int) := by omega
      obtain ⟨gd, rfl, hgd1, hgd2⟩ := hq hsn1
      have c0 : wr.cell? ⟨gd, 0, none⟩ = some (.int .i64 k1) := OL.cell tcE_cells HOL.out 0 0 (by simp) rfl
      have c1 : wr.cell? ⟨gd, 1, none⟩ = some (.int .i64 k2) := OL.cell tcE_cells HOL.out 0 1 (by simp) rfl
      have c2 : wr.cell? ⟨gd, 2, none⟩ = some (.slice none 0 0) := OL.cell tcE_cells HOL.out 0 2 (by simp) rfl
      clear hru
      have s0 : (wr.setCell ⟨w.heap.size, 0, none⟩ (.int .i64 k1)).cell? ⟨w.heap.size, 0, none⟩ = some (.int .i64 k1) := World.cell?_setCell_same _ _ _ r0
      have s1 : ((wr.setCell ⟨w.heap.size, 0, none⟩ (.int .i64 k1)).setCell ⟨w.heap.size, 1, none⟩ (.int .i64 k2)).cell? ⟨w.heap.size, 1, none⟩ = some (.int .i64 k2) := World.cell?_setCell_same _ _ _ ((World.cell?_setCell_other _ _ _ _ (by intro e2; injection e2 with _ e3; exact absurd e3 (by decide))).trans r1)
      have s2 : (((wr.setCell ⟨w.heap.size, 0, none⟩ (.int .i64 k1)).setCell ⟨w.heap.size, 1, none⟩ (.int .i64 k2)).setCell ⟨w.heap.size, 2, none⟩ (.slice none 0 0)).cell? ⟨w.heap.size, 2, none⟩ = some (.slice none 0 0) := World.cell?_setCell_same _ _ _ ((World.cell?_setCell_other _ _ _ _ (by intro e2; injection e2 with _ e3; exact absurd e3 (by decide))).trans ((World.cell?_setCell_other _ _ _ _ (by intro e2; injection e2 with _ e3; exact absurd e3 (by decide))).trans r2))
      go_wp2
      refine bodyPost_ret (by simp [results, Tryz.results15, go_sem, s0, s1, s2]; try rfl) rfl ?_
      exact ⟨rfl, HBR.out.trans (by (repeat' (first | (with_reducible first | exact Below.refl _ _ | assumption | refine Below.alloc ?_ ?_ _ | refine below_drewN ?_ _ | refine below_drew ?_ | refine below_ext ?_ ?_ _ _ | refine Below.setCell ?_ ?_ _) | (simp; done) | (simp; omega) | omega)))⟩
end Go.Proofs.YtalahkincccffaaGreatDoor
