/-
  Equality of lists and of contexts: the document's way.
-/
import Derived.Test.YtfffjbnbhmohjaaGreatDoorValRD
namespace Go.Proofs.YtfffjbnbhmohjaaGreatDoor
open Go.RowKit Word Txt
attribute [local go_sem] setCell_drewN cell?_ext frozen?_ext shape?_ext setCell_ext lt_1' ne_1' en_1' le_1' lt_2' ne_2' en_2' le_2' lt_3' ne_3' en_3' le_3' lt_4' ne_4' en_4' le_4' lt_5' ne_5' en_5' le_5' lt_6' ne_6' en_6' le_6' lt_7' ne_7' en_7' le_7' lt_8' ne_8' en_8' le_8' lt_9' ne_9' en_9' le_9' lt_10' ne_10' en_10' le_10' lt_11' ne_11' en_11' le_11' lt_12' ne_12' en_12' le_12'

/-- the contract of the document's Equal, at a value -/
def QC (v : V) : Prop := ∀ (n : Nat) (w : World) (x : Value) (v' : V) (x' : Value), v.At n w x → v'.At n w x' → n ≤ w.heap.size → v.form = true → v'.form = true →
  Calls Tryz.prog 34 #[x, x'] w fun e w' => e = .returned (TV (v.eq3 v').1 (v.eq3 v').2) ∧ Below w.heap.size w w'
set_option maxHeartbeats 8000000 in
set_option maxRecDepth 100000 in
theorem rEq5_any (n : Nat) (yes neg : Bool) (c : Nat) (s : Int) (t : ByteArray) (day : Int) (l : List V) (ns : List ByteArray) (yes' neg' : Bool) (c' : Nat) (s' : Int) (t' : ByteArray) (day' : Int) (l' : List V) (ns' : List ByteArray) (ih : ∀ v ∈ l, QC v) (w : World) (lv nv lv' nv' : Value)
    (hL : VSl n w l lv) (hN : NSl n w ns nv) (hL' : VSl n w l' lv') (hN' : NSl n w ns' nv') (hl : l.length ≤ 1048576) (hnw : n ≤ w.heap.size)
    (hf : ∀ v ∈ l, v.form = true) (hf' : ∀ v ∈ l', v.form = true) :
    Calls Tryz.prog 34 #[VC 5 yes neg c s t day lv nv, VC 5 yes' neg' c' s' t' day' lv' nv'] w fun e w' =>
      e = .returned (TV (if l.length = l'.length then eqL (1, true) l l' else (1, false)).1 (if l.length = l'.length then eqL (1, true) l l' else (1, false)).2) ∧ Below w.heap.size w w' := by
  have HTr := Lib.hid (fun b w => rTruth_any b w)
  obtain ⟨pl, cl, rfl⟩ := hL.shape
  obtain ⟨pn, cn, rfl⟩ := hN.shape
  obtain ⟨pl', cl', rfl⟩ := hL'.shape
  obtain ⟨pn', cn', rfl⟩ := hN'.shape
  by_cases hlen : l.length = l'.length
  · rw [if_pos hlen]
    have HX := Lib.hid (fun (i : Nat) (hi : i < l.length) (j : Nat) (hj : j < l'.length) w' (hb : Below w.heap.size w w') (x x' : Value) (h : l[i].At n w' x) (h' : l'[j].At n w' x') => ih l[i] (List.getElem_mem hi) n w' x l'[j] x' h h' (Nat.le_trans hnw hb.size) (hf _ (List.getElem_mem hi)) (hf' _ (List.getElem_mem hj)))
    have HD := Lib.hid (fun (p : P3) (m : Nat) (h : m < l.length) (h' : m < l'.length) => eqL_drop p l l' m h h')
    obtain ⟨tot, htot⟩ : ∃ tot, tot = eqL (1, true) l l' := ⟨_, rfl⟩
    rw [← htot]
    have HTOT := Lib.hid htot
    obtain ⟨len, hln⟩ : ∃ len, l.length = len := ⟨_, rfl⟩
    have hlen2 : l'.length = len := by omega
    have HLN := Lib.hid hln
    have HLM := Lib.hid hlen2
    rw [hln] at hL hl ⊢
    rw [hlen2] at hL' ⊢
    have HA := Lib.hid hL
    have HB := Lib.hid hL'
    generalize ns.length = nn at *
    generalize ns'.length = nn' at *
    clear hL hL' hN hN' hlen hlen2 hln ih hf hf' htot
    obtain ⟨bx, hbx⟩ : ∃ bx, bx = Obj.cells #[.int .i64 5, .bool yes, .bool neg, .int .u64 (Word.hi c : Int), .int .u64 (lo c : Int), .int .i64 s, .string t, .int .i64 day, .slice pl len cl, .slice pn nn cn] 30 := ⟨_, rfl⟩
    obtain ⟨bz, hbz⟩ : ∃ bz, bz = Obj.cells #[.int .i64 5, .bool yes', .bool neg', .int .u64 (Word.hi c' : Int), .int .u64 (lo c' : Int), .int .i64 s', .string t', .int .i64 day', .slice pl' len cl', .slice pn' nn' cn'] 30 := ⟨_, rfl⟩
    go_enter Tryz.func34, Tryz.ntmps34
    go_wp2
    rw [← hbx, ← hbz]
    go_loopw [5, 6] (fun lv i wr => ∃ (m : Nat) (ps : List P3), i = .int .i64 m ∧ m ≤ len ∧ ps.length = m ∧ PBufV (((w.alloc bx).alloc bz).alloc (.cells #[.int .i64 0, .bool false, .bool false, .int .u64 0, .int .u64 0, .int .i64 0, .string ⟨#[]⟩, .int .i64 0, .slice none 0 0, .slice none 0 0] 30)) lv ps wr ∧ eqL (ps.foldl and3 (1, true)) (l.drop m) (l'.drop m) = tot) (fun _ i _ => len - (intOf i).toNat)
    case atStart => exact ⟨0, [], rfl, by omega, rfl, PBufV.nil _ (Below.refl _ _), by rw [HTOT.out]; rfl⟩
    case round =>
      obtain ⟨m, ps, rfl, hm, hps, hpb, hs0⟩ := hrel
      obtain ⟨osR, dR, rfl⟩ := ext_of_below hpb.2
      obtain ⟨pb, cb, rfl⟩ := hpb.shape
      rw [hps] at hpb ⊢
      have HPB := Lib.hid hpb
      have HS := Lib.hid hs0
      clear hs0 hpb
      by_cases hml : m < len
      · have hi : (m : Int) < len := by omega
        have h1 : m < l.length := by have := HLN.out; omega
        have h2 : m < l'.length := by have := HLM.out; omega
        obtain ⟨g, o, rfl, hg, hr⟩ : ∃ g o, pl = some ⟨g, o, none⟩ ∧ g < w.heap.size ∧ RowAt n w g l o := by
          rcases HA.out with ⟨h, _⟩ | ⟨g, o, cap, h, _, hg, hr⟩
          · rw [h] at h1; simp at h1
          · simp only [Value.slice.injEq] at h; exact ⟨g, o, h.1, hg, hr⟩
        obtain ⟨g', o', rfl, hg', hr'⟩ : ∃ g o, pl' = some ⟨g, o, none⟩ ∧ g < w.heap.size ∧ RowAt n w g l' o := by
          rcases HB.out with ⟨h, _⟩ | ⟨g, o, cap, h, _, hg, hr⟩
          · rw [h] at h2; simp at h2
          · simp only [Value.slice.injEq] at h; exact ⟨g, o, h.1, hg, hr⟩
        obtain ⟨k1, yes1, neg1, a1, b1, s1, t1, day1, pl1, nl1, cl1, pn1, nn1, cn1, u0, u1, u2, u3, u4, u5, u6, u7, u8, u9, hat1⟩ := hr.elem m h1
        obtain ⟨k2, yes2, neg2, a2, b2, s2, t2, day2, pl2, nl2, cl2, pn2, nn2, cn2, z0, z1, z2, z3, z4, z5, z6, z7, z8, z9, hat2⟩ := hr'.elem m h2
        have HE := Lib.hid (fun w' (hb2 : Below w.heap.size w w') => HX.out m h1 m h2 w' hb2 _ _ (hat1.below (hb2.mono hnw)) (hat2.below (hb2.mono hnw)))
        obtain ⟨q, hq⟩ : ∃ q, q = l[m].eq3 l'[m] := ⟨_, rfl⟩
        rw [← hq] at HE
        have HN := Lib.hid (show eqL ((ps ++ [q]).foldl and3 (1, true)) (l.drop (m + 1)) (l'.drop (m + 1)) = tot by rw [List.foldl_append, ← HS.out, HD.out _ m h1 h2, hq]; rfl)
        obtain ⟨qk, qy⟩ := q
        have HK := Lib.hid (fun w' (hb : Below (w.heap.size + 1 + 1) ((w.alloc bx).alloc bz) w') => show w'.cell? ⟨w.heap.size, 8, none⟩ = some (.slice (some ⟨g, o, none⟩) len cl) ∧ w'.cell? ⟨w.heap.size + 1, 8, none⟩ = some (.slice (some ⟨g', o', none⟩) len cl') ∧ w'.cell? ⟨g, o + m * 10, none⟩ = some (.int .i64 k1) ∧ w'.cell? ⟨g, o + m * 10 + 1, none⟩ = some (.bool yes1) ∧ w'.cell? ⟨g, o + m * 10 + 2, none⟩ = some (.bool neg1) ∧ w'.cell? ⟨g, o + m * 10 + 3, none⟩ = some (.int .u64 a1) ∧ w'.cell? ⟨g, o + m * 10 + 4, none⟩ = some (.int .u64 b1) ∧ w'.cell? ⟨g, o + m * 10 + 5, none⟩ = some (.int .i64 s1) ∧ w'.cell? ⟨g, o + m * 10 + 6, none⟩ = some (.string t1) ∧ w'.cell? ⟨g, o + m * 10 + 7, none⟩ = some (.int .i64 day1) ∧ w'.cell? ⟨g, o + m * 10 + 8, none⟩ = some (.slice pl1 nl1 cl1) ∧ w'.cell? ⟨g, o + m * 10 + 9, none⟩ = some (.slice pn1 nn1 cn1) ∧ w'.cell? ⟨g', o' + m * 10, none⟩ = some (.int .i64 k2) ∧ w'.cell? ⟨g', o' + m * 10 + 1, none⟩ = some (.bool yes2) ∧ w'.cell? ⟨g', o' + m * 10 + 2, none⟩ = some (.bool neg2) ∧ w'.cell? ⟨g', o' + m * 10 + 3, none⟩ = some (.int .u64 a2) ∧ w'.cell? ⟨g', o' + m * 10 + 4, none⟩ = some (.int .u64 b2) ∧ w'.cell? ⟨g', o' + m * 10 + 5, none⟩ = some (.int .i64 s2) ∧ w'.cell? ⟨g', o' + m * 10 + 6, none⟩ = some (.string t2) ∧ w'.cell? ⟨g', o' + m * 10 + 7, none⟩ = some (.int .i64 day2) ∧ w'.cell? ⟨g', o' + m * 10 + 8, none⟩ = some (.slice pl2 nl2 cl2) ∧ w'.cell? ⟨g', o' + m * 10 + 9, none⟩ = some (.slice pn2 nn2 cn2) from (fun (hw : Below w.heap.size w w') => ⟨(hb.cell (p := ⟨w.heap.size, 8, none⟩) (by show w.heap.size < _; omega)).trans (by rw [hbx]; simp [go_sem]), (hb.cell (p := ⟨w.heap.size + 1, 8, none⟩) (by show w.heap.size + 1 < _; omega)).trans (by rw [hbz]; simp [go_sem]), (hw.cell (p := ⟨g, _, none⟩) hg).trans u0, (hw.cell (p := ⟨g, _, none⟩) hg).trans u1, (hw.cell (p := ⟨g, _, none⟩) hg).trans u2, (hw.cell (p := ⟨g, _, none⟩) hg).trans u3, (hw.cell (p := ⟨g, _, none⟩) hg).trans u4, (hw.cell (p := ⟨g, _, none⟩) hg).trans u5, (hw.cell (p := ⟨g, _, none⟩) hg).trans u6, (hw.cell (p := ⟨g, _, none⟩) hg).trans u7, (hw.cell (p := ⟨g, _, none⟩) hg).trans u8, (hw.cell (p := ⟨g, _, none⟩) hg).trans u9, (hw.cell (p := ⟨g', _, none⟩) hg').trans z0, (hw.cell (p := ⟨g', _, none⟩) hg').trans z1, (hw.cell (p := ⟨g', _, none⟩) hg').trans z2, (hw.cell (p := ⟨g', _, none⟩) hg').trans z3, (hw.cell (p := ⟨g', _, none⟩) hg').trans z4, (hw.cell (p := ⟨g', _, none⟩) hg').trans z5, (hw.cell (p := ⟨g', _, none⟩) hg').trans z6, (hw.cell (p := ⟨g', _, none⟩) hg').trans z7, (hw.cell (p := ⟨g', _, none⟩) hg').trans z8, (hw.cell (p := ⟨g', _, none⟩) hg').trans z9⟩) (Below.trans (Below.alloc (Below.alloc (Below.refl _ _) (Nat.le_refl _) _) (by simp) _) (hb.mono (by omega))))
        clear hat1 hat2 hq HX hr hr' HA HB u0 u1 u2 u3 u4 u5 u6 u7 u8 u9 z0 z1 z2 z3 z4 z5 z6 z7 z8 z9 h1 h2 HS
        subst hbx hbz
        go_upto_region 18 with fail
        refine wp_region_held_drew (S := fun w' => w'.cell? ⟨w.heap.size, 8, none⟩ = some (.slice (some ⟨g, o, none⟩) len cl) ∧ w'.cell? ⟨w.heap.size + 1, 8, none⟩ = some (.slice (some ⟨g', o', none⟩) len cl') ∧ w'.cell? ⟨g, o + m * 10, none⟩ = some (.int .i64 k1) ∧ w'.cell? ⟨g, o + m * 10 + 1, none⟩ = some (.bool yes1) ∧ w'.cell? ⟨g, o + m * 10 + 2, none⟩ = some (.bool neg1) ∧ w'.cell? ⟨g, o + m * 10 + 3, none⟩ = some (.int .u64 a1) ∧ w'.cell? ⟨g, o + m * 10 + 4, none⟩ = some (.int .u64 b1) ∧ w'.cell? ⟨g, o + m * 10 + 5, none⟩ = some (.int .i64 s1) ∧ w'.cell? ⟨g, o + m * 10 + 6, none⟩ = some (.string t1) ∧ w'.cell? ⟨g, o + m * 10 + 7, none⟩ = some (.int .i64 day1) ∧ w'.cell? ⟨g, o + m * 10 + 8, none⟩ = some (.slice pl1 nl1 cl1) ∧ w'.cell? ⟨g, o + m * 10 + 9, none⟩ = some (.slice pn1 nn1 cn1) ∧ w'.cell? ⟨g', o' + m * 10, none⟩ = some (.int .i64 k2) ∧ w'.cell? ⟨g', o' + m * 10 + 1, none⟩ = some (.bool yes2) ∧ w'.cell? ⟨g', o' + m * 10 + 2, none⟩ = some (.bool neg2) ∧ w'.cell? ⟨g', o' + m * 10 + 3, none⟩ = some (.int .u64 a2) ∧ w'.cell? ⟨g', o' + m * 10 + 4, none⟩ = some (.int .u64 b2) ∧ w'.cell? ⟨g', o' + m * 10 + 5, none⟩ = some (.int .i64 s2) ∧ w'.cell? ⟨g', o' + m * 10 + 6, none⟩ = some (.string t2) ∧ w'.cell? ⟨g', o' + m * 10 + 7, none⟩ = some (.int .i64 day2) ∧ w'.cell? ⟨g', o' + m * 10 + 8, none⟩ = some (.slice pl2 nl2 cl2) ∧ w'.cell? ⟨g', o' + m * 10 + 9, none⟩ = some (.slice pn2 nn2 cn2)) (by kernel_rfl) ?hSa (fun hHeld => ?resta)
        case hSa => ((try dsimp only); exact HK.out _ (by (repeat' (first | (with_reducible exact Below.refl _ _) | (with_reducible assumption) | (with_reducible refine Below.alloc ?_ ?_ _) | (with_reducible refine below_drewN ?_ _) | (with_reducible refine below_drew ?_) | (with_reducible refine below_ext ?_ ?_ _ _) | (with_reducible refine Below.setCell ?_ ?_ _) | (simp; done) | (simp; omega) | omega))))
        refine wpAnyH_take (i := 0) (oi := ({ dst := some 64, op := Op.move (Operand.tmp 5), type := 27, pos := "ref.go:162", after := #[], guard := none } : Oper)) (v := ?v1) rfl (by kernel_rfl) (by kernel_rfl) (by kernel_rfl) (fun _ _ _ h => h) (Or.inl ⟨by rfl, ?hy1⟩) (by assumption) ?re1
        case hy1 => (intro w hSw; (try dsimp only at hSw); go_simp; try with_reducible rfl)
        (try simp only [Act.put, List.setIfInBounds_toArray, List.set_cons_zero, List.set_cons_succ])
        refine wpAnyH_take (i := 1) (oi := ({ dst := some 65, op := Op.fieldAddr 30 (Operand.tmp 2) 5, type := 0, pos := "ref.go:162", after := #[], guard := none } : Oper)) (v := ?v2) rfl (by kernel_rfl) (by kernel_rfl) (by kernel_rfl) (fun _ _ _ h => h) (Or.inl ⟨by rfl, ?hy2⟩) (by assumption) ?re2
        case hy2 => (intro w hSw; (try dsimp only at hSw); go_simp; try with_reducible rfl)
        (try simp only [Act.put, List.setIfInBounds_toArray, List.set_cons_zero, List.set_cons_succ])
        refine wpAnyH_take (i := 2) (oi := ({ dst := some 66, op := Op.load 27 (Operand.tmp 65), type := 27, pos := "ref.go:162", after := #[{ on := 1, ground := Ground.data }], guard := none } : Oper)) (v := ?v3) rfl (by kernel_rfl) (by kernel_rfl) (by kernel_rfl) (fun _ _ _ h => h) (Or.inl ⟨by rfl, ?hy3⟩) (by assumption) ?re3
        case hy3 => (intro w hSw; (try dsimp only at hSw); go_simp; try with_reducible rfl)
        (try simp only [Act.put, List.setIfInBounds_toArray, List.set_cons_zero, List.set_cons_succ])
        refine wpAnyH_take (i := 3) (oi := ({ dst := some 67, op := Op.move (Operand.tmp 6), type := 3, pos := "ref.go:162", after := #[], guard := none } : Oper)) (v := ?v4) rfl (by kernel_rfl) (by kernel_rfl) (by kernel_rfl) (fun _ _ _ h => h) (Or.inl ⟨by rfl, ?hy4⟩) (by assumption) ?re4
        case hy4 => (intro w hSw; (try dsimp only at hSw); go_simp; try with_reducible rfl)
        (try simp only [Act.put, List.setIfInBounds_toArray, List.set_cons_zero, List.set_cons_succ])
        refine wpAnyH_take (i := 4) (oi := ({ dst := some 68, op := Op.indexAddr 27 (Operand.tmp 66) (Operand.tmp 67), type := 0, pos := "ref.go:162", after := #[{ on := 2, ground := Ground.data }, { on := 3, ground := Ground.data }], guard := none } : Oper)) (v := ?v5) rfl (by kernel_rfl) (by kernel_rfl) (by kernel_rfl) (fun _ _ _ h => h) (Or.inl ⟨by rfl, ?hy5⟩) (by assumption) ?re5
        case hy5 => (intro w hSw; (try dsimp only at hSw); go_simp; try with_reducible rfl)
        (try simp only [Act.put, List.setIfInBounds_toArray, List.set_cons_zero, List.set_cons_succ])
        refine wpAnyH_take (i := 5) (oi := ({ dst := some 69, op := Op.load 30 (Operand.tmp 68), type := 30, pos := "ref.go:162", after := #[{ on := 4, ground := Ground.data }], guard := none } : Oper)) (v := ?v6) rfl (by kernel_rfl) (by kernel_rfl) (by kernel_rfl) (fun _ _ _ h => h) (Or.inl ⟨by rfl, ?hy6⟩) (by assumption) ?re6
        case hy6 => (intro w hSw; (try dsimp only at hSw); go_simp; try with_reducible rfl)
        (try simp only [Act.put, List.setIfInBounds_toArray, List.set_cons_zero, List.set_cons_succ])
        refine wpAnyH_take (i := 6) (oi := ({ dst := some 70, op := Op.fieldAddr 30 (Operand.tmp 3) 5, type := 0, pos := "ref.go:162", after := #[], guard := none } : Oper)) (v := ?v7) rfl (by kernel_rfl) (by kernel_rfl) (by kernel_rfl) (fun _ _ _ h => h) (Or.inl ⟨by rfl, ?hy7⟩) (by assumption) ?re7
        case hy7 => (intro w hSw; (try dsimp only at hSw); go_simp; try with_reducible rfl)
        (try simp only [Act.put, List.setIfInBounds_toArray, List.set_cons_zero, List.set_cons_succ])
        refine wpAnyH_take (i := 7) (oi := ({ dst := some 71, op := Op.load 27 (Operand.tmp 70), type := 27, pos := "ref.go:162", after := #[{ on := 6, ground := Ground.data }], guard := none } : Oper)) (v := ?v8) rfl (by kernel_rfl) (by kernel_rfl) (by kernel_rfl) (fun _ _ _ h => h) (Or.inl ⟨by rfl, ?hy8⟩) (by assumption) ?re8
        case hy8 => (intro w hSw; (try dsimp only at hSw); go_simp; try with_reducible rfl)
        (try simp only [Act.put, List.setIfInBounds_toArray, List.set_cons_zero, List.set_cons_succ])
        refine wpAnyH_take (i := 8) (oi := ({ dst := some 72, op := Op.move (Operand.tmp 7), type := 3, pos := "ref.go:162", after := #[], guard := none } : Oper)) (v := ?v9) rfl (by kernel_rfl) (by kernel_rfl) (by kernel_rfl) (fun _ _ _ h => h) (Or.inl ⟨by rfl, ?hy9⟩) (by assumption) ?re9
        case hy9 => (intro w hSw; (try dsimp only at hSw); go_simp; try with_reducible rfl)
        (try simp only [Act.put, List.setIfInBounds_toArray, List.set_cons_zero, List.set_cons_succ])
        refine wpAnyH_take (i := 9) (oi := ({ dst := some 73, op := Op.indexAddr 27 (Operand.tmp 71) (Operand.tmp 72), type := 0, pos := "ref.go:162", after := #[{ on := 7, ground := Ground.data }, { on := 8, ground := Ground.data }], guard := none } : Oper)) (v := ?v10) rfl (by kernel_rfl) (by kernel_rfl) (by kernel_rfl) (fun _ _ _ h => h) (Or.inl ⟨by rfl, ?hy10⟩) (by assumption) ?re10
        case hy10 => (intro w hSw; (try dsimp only at hSw); go_simp; try with_reducible rfl)
        (try simp only [Act.put, List.setIfInBounds_toArray, List.set_cons_zero, List.set_cons_succ])
        refine wpAnyH_take (i := 10) (oi := ({ dst := some 74, op := Op.load 30 (Operand.tmp 73), type := 30, pos := "ref.go:162", after := #[{ on := 9, ground := Ground.data }], guard := none } : Oper)) (v := ?v11) rfl (by kernel_rfl) (by kernel_rfl) (by kernel_rfl) (fun _ _ _ h => h) (Or.inl ⟨by rfl, ?hy11⟩) (by assumption) ?re11
        case hy11 => (intro w hSw; (try dsimp only at hSw); go_simp; try with_reducible rfl)
        (try simp only [Act.put, List.setIfInBounds_toArray, List.set_cons_zero, List.set_cons_succ])
        refine wpAnyH_ready (rs := [11]) (by kernel_rfl) (by simp) ?_
        refine AllReadyH.cons (o := ({ dst := some 75, op := Op.call { callee := Callee.value (Operand.func 34), args := #[Operand.tmp 69, Operand.tmp 74], argTypes := #[30, 30] }, type := 30, pos := "ref.go:162", after := #[{ on := 5, ground := Ground.data }, { on := 10, ground := Ground.data }], guard := none } : Oper)) rfl (fun K hK => ?_) AllReadyH.nil
        go_simp
        (go_at_call 34; ((with_reducible refine (HE.out _ (by (repeat' (first | (with_reducible exact Below.refl _ _) | (with_reducible assumption) | (with_reducible refine Below.alloc ?_ ?_ _) | (with_reducible refine below_drewN ?_ _) | (with_reducible refine below_drew ?_) | (with_reducible refine below_ext ?_ ?_ _ _) | (with_reducible refine Below.setCell ?_ ?_ _) | (simp; done) | (simp; omega) | omega)))).mono ?_); rintro e w1 ⟨rfl, hb1⟩; obtain ⟨osC, dC, rfl⟩ := ext_of_below hb1; clear hb1))
        refine hK.out _ _ ?hS12 (fun hHeldN => ?rst12)
        case hS12 => ((try dsimp only); exact HK.out _ (by (repeat' (first | (with_reducible exact Below.refl _ _) | (with_reducible assumption) | (with_reducible refine Below.alloc ?_ ?_ _) | (with_reducible refine below_drewN ?_ _) | (with_reducible refine below_drew ?_) | (with_reducible refine below_ext ?_ ?_ _ _) | (with_reducible refine Below.setCell ?_ ?_ _) | (simp; done) | (simp; omega) | omega))))
        clear hHeld hK K
        have hHeld := hHeldN
        clear hHeldN
        refine wpAnyH_ready (rs := [12]) (by kernel_rfl) (by simp) ?_
        refine AllReadyH.cons (o := ({ dst := some 76, op := Op.buildSlice 27 1 #[(0, Operand.tmp 75)], type := 27, pos := "ref.go:162", after := #[{ on := 11, ground := Ground.data }], guard := none } : Oper)) rfl (fun K hK => ?_) AllReadyH.nil
        go_simp
        refine hK.out _ _ ?hS13 (fun hHeldN => ?rst13)
        case hS13 => ((try dsimp only); exact HK.out _ (by (repeat' (first | (with_reducible exact Below.refl _ _) | (with_reducible assumption) | (with_reducible refine Below.alloc ?_ ?_ _) | (with_reducible refine below_drewN ?_ _) | (with_reducible refine below_drew ?_) | (with_reducible refine below_ext ?_ ?_ _ _) | (with_reducible refine Below.setCell ?_ ?_ _) | (simp; done) | (simp; omega) | omega))))
        clear hHeld hK K
        have hHeld := hHeldN
        clear hHeldN
        (try simp only [Act.put, List.setIfInBounds_toArray, List.set_cons_zero, List.set_cons_succ])
        refine wpAnyH_ready (rs := [13]) (by kernel_rfl) (by simp) ?_
        refine AllReadyH.cons (o := ({ dst := some 77, op := Op.call { callee := Callee.builtin Builtin.append, args := #[Operand.tmp 64, Operand.tmp 76], argTypes := #[27, 27] }, type := 27, pos := "ref.go:162", after := #[{ on := 0, ground := Ground.data }, { on := 12, ground := Ground.data }, { on := 11, ground := Ground.chain }], guard := none } : Oper)) rfl (fun K hK => ?_) AllReadyH.nil
        (rw [if_pos (by rfl)]; refine append_tv _ _ rfl rfl _ _ qk qy _ (HPB.out.grow (by (repeat' (first | (with_reducible exact Below.refl _ _) | (with_reducible assumption) | (with_reducible refine Below.alloc ?_ ?_ _) | (with_reducible refine below_drewN ?_ _) | (with_reducible refine below_drew ?_) | (with_reducible refine below_ext ?_ ?_ _ _) | (with_reducible refine Below.setCell ?_ ?_ _) | (simp; done) | (simp; omega) | omega)))) (by simp) rfl (by omega) ?_; intro lv3 w3 hpb3)
        refine hK.out _ _ ?hS14 (fun hHeldN => ?rst14)
        case hS14 => ((try dsimp only); exact HK.out _ (Below.trans (by (repeat' (first | (with_reducible exact Below.refl _ _) | (with_reducible assumption) | (with_reducible refine Below.alloc ?_ ?_ _) | (with_reducible refine below_drewN ?_ _) | (with_reducible refine below_drew ?_) | (with_reducible refine below_ext ?_ ?_ _ _) | (with_reducible refine Below.setCell ?_ ?_ _) | (simp; done) | (simp; omega) | omega))) (hpb3.2.mono (by simp <;> omega))))
        clear hHeld hK K
        have hHeld := hHeldN
        clear hHeldN
        refine wpAnyH_ready (rs := [14]) (by kernel_rfl) (by simp) ?_
        refine AllReadyH.cons (o := ({ dst := some 5, op := Op.assign (Operand.tmp 77), type := 27, pos := "ref.go:162", after := #[{ on := 13, ground := Ground.data }, { on := 13, ground := Ground.chain }, { on := 0, ground := Ground.phase }, { on := 1, ground := Ground.phase }, { on := 2, ground := Ground.phase }, { on := 3, ground := Ground.phase }, { on := 4, ground := Ground.phase }, { on := 5, ground := Ground.phase }, { on := 6, ground := Ground.phase }, { on := 7, ground := Ground.phase }, { on := 8, ground := Ground.phase }, { on := 9, ground := Ground.phase }, { on := 10, ground := Ground.phase }, { on := 11, ground := Ground.phase }, { on := 12, ground := Ground.phase }, { on := 13, ground := Ground.phase }], guard := none } : Oper)) rfl (fun K hK => ?_) AllReadyH.nil
        go_simp
        refine hK.out _ _ ?hS15 (fun hHeldN => ?rst15)
        case hS15 => ((try dsimp only); exact HK.out _ (Below.trans (by (repeat' (first | (with_reducible exact Below.refl _ _) | (with_reducible assumption) | (with_reducible refine Below.alloc ?_ ?_ _) | (with_reducible refine below_drewN ?_ _) | (with_reducible refine below_drew ?_) | (with_reducible refine below_ext ?_ ?_ _ _) | (with_reducible refine Below.setCell ?_ ?_ _) | (simp; done) | (simp; omega) | omega))) (hpb3.2.mono (by simp <;> omega))))
        clear hHeld hK K
        have hHeld := hHeldN
        clear hHeldN
        (try simp only [Act.put, List.setIfInBounds_toArray, List.set_cons_zero, List.set_cons_succ])
        refine wpAnyH_done (by kernel_rfl) ?_ _
        clear hHeld
        go_wp2
        go_roundw
        case rel => exact ⟨m + 1, ps ++ [(qk, qy)], by go_num, by omega, by simp; omega, hpb3, HN.out⟩
        case measure => simp [intOf]; omega
      · obtain rfl : m = len := by omega
        have hi : ¬ (m : Int) < m := by omega
        have HR := Lib.hid (show tot = all3 (1, true) ps by
          rw [← HS.out, ← HLN.out, List.drop_length, eqL_nil, fold_all _ _ (.inl rfl)])
        have HAL := Lib.hid (all_any _ (ps.map tvV) _ _ HPB.out.sl (by rw [List.length_map]; omega) (Nat.le_refl _))
        rw [tri_tv] at HAL
        subst hbx hbz
        go_wp2_with (first
          | (go_at_call 58; (with_reducible refine HAL.out.mono ?_); rintro e w1 ⟨rfl, hb1⟩; obtain ⟨osA, dA, rfl⟩ := ext_of_below hb1; clear hb1))
        go_returns
        exact ⟨by rw [HR.out], by (repeat' (first | (with_reducible exact Below.refl _ _) | (with_reducible assumption) | (with_reducible refine Below.alloc ?_ ?_ _) | (with_reducible refine below_drewN ?_ _) | (with_reducible refine below_drew ?_) | (with_reducible refine below_ext ?_ ?_ _ _) | (with_reducible refine Below.setCell ?_ ?_ _) | (simp; done) | (simp; omega) | omega))⟩
  · rw [if_neg hlen]
    have hne : ((l.length : Int) != (l'.length : Int)) = true := by simp [bne]; omega
    generalize l.length = a at *
    generalize l'.length = b at *
    generalize ns.length = a2 at *
    generalize ns'.length = b2 at *
    clear hL hL' hN hN' ih hf hf'
    go_enter Tryz.func34, Tryz.ntmps34
    go_wp2_with (first
      | (go_at_call 56; ((with_reducible refine (HTr.out _ _).mono ?_); rintro e w1 ⟨rfl, hb1⟩; obtain ⟨osA, dA, rfl⟩ := ext_of_below hb1; clear hb1)))
    go_returns
    exact ⟨rfl, by (repeat' (first | (with_reducible exact Below.refl _ _) | (with_reducible assumption) | (with_reducible refine Below.alloc ?_ ?_ _) | (with_reducible refine below_drewN ?_ _) | (with_reducible refine below_drew ?_) | (with_reducible refine below_ext ?_ ?_ _ _) | (with_reducible refine Below.setCell ?_ ?_ _) | (simp; done) | (simp; omega) | omega))⟩
set_option maxHeartbeats 8000000 in
set_option maxRecDepth 100000 in
theorem rEq6_any (n : Nat) (yes neg : Bool) (c : Nat) (s : Int) (t : ByteArray) (day : Int) (l : List V) (ns : List ByteArray) (yes' neg' : Bool) (c' : Nat) (s' : Int) (t' : ByteArray) (day' : Int) (l' : List V) (ns' : List ByteArray) (ih : ∀ v ∈ l, QC v) (w : World) (lv nv lv' nv' : Value)
    (hL : VSl n w l lv) (hN : NSl n w ns nv) (hL' : VSl n w l' lv') (hN' : NSl n w ns' nv') (hl : l.length ≤ 1048576) (hl' : ns'.length ≤ 1048576) (hnw : n ≤ w.heap.size)
    (hf : ∀ v ∈ l, v.form = true) (hf' : ∀ v ∈ l', v.form = true) (hc : ns.length = l.length) (hc' : ns'.length = l'.length) :
    Calls Tryz.prog 34 #[VC 6 yes neg c s t day lv nv, VC 6 yes' neg' c' s' t' day' lv' nv'] w fun e w' =>
      e = .returned (TV (if l.length = l'.length then eqE (1, true) l ns l' ns' else (1, false)).1 (if l.length = l'.length then eqE (1, true) l ns l' ns' else (1, false)).2) ∧ Below w.heap.size w w' := by
  have HTr := Lib.hid (fun b w => rTruth_any b w)
  obtain ⟨pl, cl, rfl⟩ := hL.shape
  obtain ⟨pn, cn, rfl⟩ := hN.shape
  obtain ⟨pl', cl', rfl⟩ := hL'.shape
  obtain ⟨pn', cn', rfl⟩ := hN'.shape
  by_cases hlen : l.length = l'.length
  · rw [if_pos hlen]
    have HX := Lib.hid (fun (i : Nat) (hi : i < l.length) (j : Nat) (hj : j < l'.length) w' (hb : Below w.heap.size w w') (x x' : Value) (h : l[i].At n w' x) (h' : l'[j].At n w' x') => ih l[i] (List.getElem_mem hi) n w' x l'[j] x' h h' (Nat.le_trans hnw hb.size) (hf _ (List.getElem_mem hi)) (hf' _ (List.getElem_mem hj)))
    have HIN := Lib.hid (fun (p : P3) (m : Nat) (h : m < l.length) (hn : m < ns.length) (hi : idx ns' ns[m] < l'.length) => eqE_in p l ns l' ns' m h hn hi)
    have HOUT := Lib.hid (fun (p : P3) (m : Nat) (h : m < l.length) (hn : m < ns.length) (hi : l'.length ≤ idx ns' ns[m]) => eqE_out p l ns l' ns' m h hn hi)
    obtain ⟨tot, htot⟩ : ∃ tot, tot = eqE (1, true) l ns l' ns' := ⟨_, rfl⟩
    rw [← htot]
    have HTOT := Lib.hid htot
    obtain ⟨len, hln⟩ : ∃ len, l.length = len := ⟨_, rfl⟩
    have hlen2 : l'.length = len := by omega
    have HLN := Lib.hid hln
    have HLM := Lib.hid hlen2
    have HNL := Lib.hid hc
    have HNM := Lib.hid hc'
    obtain ⟨nn, hnn⟩ : ∃ nn, ns.length = nn := ⟨_, rfl⟩
    have HNN0 := Lib.hid hnn
    obtain ⟨nn', hnn'⟩ : ∃ nn', ns'.length = nn' := ⟨_, rfl⟩
    have HNN := Lib.hid (show nn = len by omega)
    rw [hnn] at hN ⊢
    rw [hnn'] at hN' ⊢
    have HAN := Lib.hid hN
    have HFI := Lib.hid (fun (x : ByteArray) w' (hb : Below w.heap.size w w') => rFind_any 6 yes' neg' c' s' t' day' pl' len cl' n ns' (.slice pn' nn' cn') x w' (hN'.below (hb.mono hnw)) hl' (Nat.le_trans hnw hb.size))
    rw [hln] at hL hl ⊢
    rw [hlen2] at hL' ⊢
    have HA := Lib.hid hL
    have HB := Lib.hid hL'
    clear hL hL' hN hN' hlen hlen2 hln ih hf hf' htot hc hc' hl'
    obtain ⟨bx, hbx⟩ : ∃ bx, bx = Obj.cells #[.int .i64 6, .bool yes, .bool neg, .int .u64 (Word.hi c : Int), .int .u64 (lo c : Int), .int .i64 s, .string t, .int .i64 day, .slice pl len cl, .slice pn nn cn] 30 := ⟨_, rfl⟩
    obtain ⟨bz, hbz⟩ : ∃ bz, bz = Obj.cells #[.int .i64 6, .bool yes', .bool neg', .int .u64 (Word.hi c' : Int), .int .u64 (lo c' : Int), .int .i64 s', .string t', .int .i64 day', .slice pl' len cl', .slice pn' nn' cn'] 30 := ⟨_, rfl⟩
    go_enter Tryz.func34, Tryz.ntmps34
    go_wp2
    rw [← hbx, ← hbz]
    go_loopw [5, 6] (fun lv i wr => ∃ (m : Nat) (ps : List P3), i = .int .i64 m ∧ m ≤ len ∧ ps.length = m ∧ PBufV (((w.alloc bx).alloc bz).alloc (.cells #[.int .i64 0, .bool false, .bool false, .int .u64 0, .int .u64 0, .int .i64 0, .string ⟨#[]⟩, .int .i64 0, .slice none 0 0, .slice none 0 0] 30)) lv ps wr ∧ eqE (ps.foldl and3 (1, true)) (l.drop m) (ns.drop m) l' ns' = tot) (fun _ i _ => len - (intOf i).toNat)
    case atStart => exact ⟨0, [], rfl, by omega, rfl, PBufV.nil _ (Below.refl _ _), by rw [HTOT.out]; rfl⟩
    case round =>
      obtain ⟨m, ps, rfl, hm, hps, hpb, hs0⟩ := hrel
      obtain ⟨osR, dR, rfl⟩ := ext_of_below hpb.2
      obtain ⟨pb, cb, rfl⟩ := hpb.shape
      rw [hps] at hpb ⊢
      have HPB := Lib.hid hpb
      have HS := Lib.hid hs0
      clear hs0 hpb
      by_cases hml : m < len
      · have hi : (m : Int) < len := by omega
        have h1 : m < l.length := by have := HLN.out; omega
        have h3 : m < ns.length := by have := HNN.out; have := HNL.out; omega
        obtain ⟨gn, on, rfl, hgn, hrn⟩ : ∃ g o, pn = some ⟨g, o, none⟩ ∧ g < w.heap.size ∧ NamesAt w g ns o := by
          rcases HAN.out with ⟨h, _⟩ | ⟨g, o, cap, h, _, hg, hr⟩
          · rw [h] at h3; simp at h3
          · simp only [Value.slice.injEq] at h; exact ⟨g, o, h.1, hg, hr⟩
        obtain ⟨sn, hsn⟩ : ∃ sn, sn = ns[m] := ⟨_, rfl⟩
        have cn9 : w.cell? ⟨gn, on + m, none⟩ = some (.string sn) := by rw [hsn]; exact hrn.get m h3
        have HSN := Lib.hid hsn
        have HF9 := Lib.hid (fun w' (hb : Below w.heap.size w w') => HFI.out sn w' hb)
        have hnm : (m : Int) < nn := by have := HNN.out; omega
        have HK5 := Lib.hid (fun w' (hb : Below (w.heap.size + 1 + 1) ((w.alloc bx).alloc bz) w') => show w'.cell? ⟨w.heap.size + 1, 0, none⟩ = some (.int .i64 6) ∧ w'.cell? ⟨w.heap.size + 1, 1, none⟩ = some (.bool yes') ∧ w'.cell? ⟨w.heap.size + 1, 2, none⟩ = some (.bool neg') ∧ w'.cell? ⟨w.heap.size + 1, 3, none⟩ = some (.int .u64 (Word.hi c' : Int)) ∧ w'.cell? ⟨w.heap.size + 1, 4, none⟩ = some (.int .u64 (lo c' : Int)) ∧ w'.cell? ⟨w.heap.size + 1, 5, none⟩ = some (.int .i64 s') ∧ w'.cell? ⟨w.heap.size + 1, 6, none⟩ = some (.string t') ∧ w'.cell? ⟨w.heap.size + 1, 7, none⟩ = some (.int .i64 day') ∧ w'.cell? ⟨w.heap.size + 1, 8, none⟩ = some (.slice pl' len cl') ∧ w'.cell? ⟨w.heap.size + 1, 9, none⟩ = some (.slice pn' nn' cn') ∧ w'.cell? ⟨w.heap.size, 9, none⟩ = some (.slice (some ⟨gn, on, none⟩) nn cn) ∧ w'.cell? ⟨gn, on + m, none⟩ = some (.string sn) from (fun (hw : Below w.heap.size w w') => ⟨(hb.cell (p := ⟨w.heap.size + 1, 0, none⟩) (by show w.heap.size + 1 < _; omega)).trans (by rw [hbz]; simp [go_sem]), (hb.cell (p := ⟨w.heap.size + 1, 1, none⟩) (by show w.heap.size + 1 < _; omega)).trans (by rw [hbz]; simp [go_sem]), (hb.cell (p := ⟨w.heap.size + 1, 2, none⟩) (by show w.heap.size + 1 < _; omega)).trans (by rw [hbz]; simp [go_sem]), (hb.cell (p := ⟨w.heap.size + 1, 3, none⟩) (by show w.heap.size + 1 < _; omega)).trans (by rw [hbz]; simp [go_sem]), (hb.cell (p := ⟨w.heap.size + 1, 4, none⟩) (by show w.heap.size + 1 < _; omega)).trans (by rw [hbz]; simp [go_sem]), (hb.cell (p := ⟨w.heap.size + 1, 5, none⟩) (by show w.heap.size + 1 < _; omega)).trans (by rw [hbz]; simp [go_sem]), (hb.cell (p := ⟨w.heap.size + 1, 6, none⟩) (by show w.heap.size + 1 < _; omega)).trans (by rw [hbz]; simp [go_sem]), (hb.cell (p := ⟨w.heap.size + 1, 7, none⟩) (by show w.heap.size + 1 < _; omega)).trans (by rw [hbz]; simp [go_sem]), (hb.cell (p := ⟨w.heap.size + 1, 8, none⟩) (by show w.heap.size + 1 < _; omega)).trans (by rw [hbz]; simp [go_sem]), (hb.cell (p := ⟨w.heap.size + 1, 9, none⟩) (by show w.heap.size + 1 < _; omega)).trans (by rw [hbz]; simp [go_sem]), (hb.cell (p := ⟨w.heap.size, 9, none⟩) (by show w.heap.size < _; omega)).trans (by rw [hbx]; simp [go_sem]), (hw.cell (p := ⟨gn, _, none⟩) hgn).trans cn9⟩) (Below.trans (Below.alloc (Below.alloc (Below.refl _ _) (Nat.le_refl _) _) (by simp) _) (hb.mono (by omega))))
        clear hsn hrn HAN HFI
        by_cases hmem : idx ns' sn < l'.length
        · obtain ⟨j, hj⟩ : ∃ j, j = idx ns' sn := ⟨_, rfl⟩
          have h2 : j < l'.length := by rw [hj]; exact hmem
          have hji : (j : Int) < len := by have := HLM.out; omega
          have hjn : ¬ (j : Int) < 0 := by omega
          have hfi : findI ns' sn = (j : Int) := by unfold findI; rw [← hj, if_pos (by have := HNM.out; omega)]
          rw [hfi] at HF9
          obtain ⟨g, o, rfl, hg, hr⟩ : ∃ g o, pl = some ⟨g, o, none⟩ ∧ g < w.heap.size ∧ RowAt n w g l o := by
            rcases HA.out with ⟨h, _⟩ | ⟨g, o, cap, h, _, hg, hr⟩
            · rw [h] at h1; simp at h1
            · simp only [Value.slice.injEq] at h; exact ⟨g, o, h.1, hg, hr⟩
          obtain ⟨g', o', rfl, hg', hr'⟩ : ∃ g o, pl' = some ⟨g, o, none⟩ ∧ g < w.heap.size ∧ RowAt n w g l' o := by
            rcases HB.out with ⟨h, _⟩ | ⟨g, o, cap, h, _, hg, hr⟩
            · rw [h] at h2; simp at h2
            · simp only [Value.slice.injEq] at h; exact ⟨g, o, h.1, hg, hr⟩
          obtain ⟨k1, yes1, neg1, a1, b1, s1, t1, day1, pl1, nl1, cl1, pn1, nn1, cn1, u0, u1, u2, u3, u4, u5, u6, u7, u8, u9, hat1⟩ := hr.elem m h1
          obtain ⟨k2, yes2, neg2, a2, b2, s2, t2, day2, pl2, nl2, cl2, pn2, nn2, cn2, z0, z1, z2, z3, z4, z5, z6, z7, z8, z9, hat2⟩ := hr'.elem j h2
          have HE := Lib.hid (fun w' (hb2 : Below w.heap.size w w') => HX.out m h1 j h2 w' hb2 _ _ (hat1.below (hb2.mono hnw)) (hat2.below (hb2.mono hnw)))
          obtain ⟨q, hq⟩ : ∃ q, q = l[m].eq3 l'[j] := ⟨_, rfl⟩
          rw [← hq] at HE
          have HN := Lib.hid (show eqE ((ps ++ [q]).foldl and3 (1, true)) (l.drop (m + 1)) (ns.drop (m + 1)) l' ns' = tot by
            have e9 := HIN.out (ps.foldl and3 (1, true)) m h1 h3 (by rw [← HSN.out]; exact hmem)
            rw [List.foldl_append, ← HS.out, e9, hq]
            show eqE (and3 _ _) _ _ _ _ = _
            congr 2
            simp only [← HSN.out, ← hj])
          obtain ⟨qk, qy⟩ := q
          have HK := Lib.hid (fun w' (hb : Below (w.heap.size + 1 + 1) ((w.alloc bx).alloc bz) w') => show w'.cell? ⟨w.heap.size, 8, none⟩ = some (.slice (some ⟨g, o, none⟩) len cl) ∧ w'.cell? ⟨w.heap.size + 1, 8, none⟩ = some (.slice (some ⟨g', o', none⟩) len cl') ∧ w'.cell? ⟨g, o + m * 10, none⟩ = some (.int .i64 k1) ∧ w'.cell? ⟨g, o + m * 10 + 1, none⟩ = some (.bool yes1) ∧ w'.cell? ⟨g, o + m * 10 + 2, none⟩ = some (.bool neg1) ∧ w'.cell? ⟨g, o + m * 10 + 3, none⟩ = some (.int .u64 a1) ∧ w'.cell? ⟨g, o + m * 10 + 4, none⟩ = some (.int .u64 b1) ∧ w'.cell? ⟨g, o + m * 10 + 5, none⟩ = some (.int .i64 s1) ∧ w'.cell? ⟨g, o + m * 10 + 6, none⟩ = some (.string t1) ∧ w'.cell? ⟨g, o + m * 10 + 7, none⟩ = some (.int .i64 day1) ∧ w'.cell? ⟨g, o + m * 10 + 8, none⟩ = some (.slice pl1 nl1 cl1) ∧ w'.cell? ⟨g, o + m * 10 + 9, none⟩ = some (.slice pn1 nn1 cn1) ∧ w'.cell? ⟨g', o' + j * 10, none⟩ = some (.int .i64 k2) ∧ w'.cell? ⟨g', o' + j * 10 + 1, none⟩ = some (.bool yes2) ∧ w'.cell? ⟨g', o' + j * 10 + 2, none⟩ = some (.bool neg2) ∧ w'.cell? ⟨g', o' + j * 10 + 3, none⟩ = some (.int .u64 a2) ∧ w'.cell? ⟨g', o' + j * 10 + 4, none⟩ = some (.int .u64 b2) ∧ w'.cell? ⟨g', o' + j * 10 + 5, none⟩ = some (.int .i64 s2) ∧ w'.cell? ⟨g', o' + j * 10 + 6, none⟩ = some (.string t2) ∧ w'.cell? ⟨g', o' + j * 10 + 7, none⟩ = some (.int .i64 day2) ∧ w'.cell? ⟨g', o' + j * 10 + 8, none⟩ = some (.slice pl2 nl2 cl2) ∧ w'.cell? ⟨g', o' + j * 10 + 9, none⟩ = some (.slice pn2 nn2 cn2) from (fun (hw : Below w.heap.size w w') => ⟨(hb.cell (p := ⟨w.heap.size, 8, none⟩) (by show w.heap.size < _; omega)).trans (by rw [hbx]; simp [go_sem]), (hb.cell (p := ⟨w.heap.size + 1, 8, none⟩) (by show w.heap.size + 1 < _; omega)).trans (by rw [hbz]; simp [go_sem]), (hw.cell (p := ⟨g, _, none⟩) hg).trans u0, (hw.cell (p := ⟨g, _, none⟩) hg).trans u1, (hw.cell (p := ⟨g, _, none⟩) hg).trans u2, (hw.cell (p := ⟨g, _, none⟩) hg).trans u3, (hw.cell (p := ⟨g, _, none⟩) hg).trans u4, (hw.cell (p := ⟨g, _, none⟩) hg).trans u5, (hw.cell (p := ⟨g, _, none⟩) hg).trans u6, (hw.cell (p := ⟨g, _, none⟩) hg).trans u7, (hw.cell (p := ⟨g, _, none⟩) hg).trans u8, (hw.cell (p := ⟨g, _, none⟩) hg).trans u9, (hw.cell (p := ⟨g', _, none⟩) hg').trans z0, (hw.cell (p := ⟨g', _, none⟩) hg').trans z1, (hw.cell (p := ⟨g', _, none⟩) hg').trans z2, (hw.cell (p := ⟨g', _, none⟩) hg').trans z3, (hw.cell (p := ⟨g', _, none⟩) hg').trans z4, (hw.cell (p := ⟨g', _, none⟩) hg').trans z5, (hw.cell (p := ⟨g', _, none⟩) hg').trans z6, (hw.cell (p := ⟨g', _, none⟩) hg').trans z7, (hw.cell (p := ⟨g', _, none⟩) hg').trans z8, (hw.cell (p := ⟨g', _, none⟩) hg').trans z9⟩) (Below.trans (Below.alloc (Below.alloc (Below.refl _ _) (Nat.le_refl _) _) (by simp) _) (hb.mono (by omega))))
          clear hat1 hat2 hq HX hr hr' HA HB u0 u1 u2 u3 u4 u5 u6 u7 u8 u9 z0 z1 z2 z3 z4 z5 z6 z7 z8 z9 h1 h2 HS hmem hj hfi cn9 HSN h3
          subst hbx hbz
          go_upto_region 15 with fail
          go_region_held3 (fun w' => w'.cell? ⟨w.heap.size + 1, 0, none⟩ = some (.int .i64 6) ∧ w'.cell? ⟨w.heap.size + 1, 1, none⟩ = some (.bool yes') ∧ w'.cell? ⟨w.heap.size + 1, 2, none⟩ = some (.bool neg') ∧ w'.cell? ⟨w.heap.size + 1, 3, none⟩ = some (.int .u64 (Word.hi c' : Int)) ∧ w'.cell? ⟨w.heap.size + 1, 4, none⟩ = some (.int .u64 (lo c' : Int)) ∧ w'.cell? ⟨w.heap.size + 1, 5, none⟩ = some (.int .i64 s') ∧ w'.cell? ⟨w.heap.size + 1, 6, none⟩ = some (.string t') ∧ w'.cell? ⟨w.heap.size + 1, 7, none⟩ = some (.int .i64 day') ∧ w'.cell? ⟨w.heap.size + 1, 8, none⟩ = some (.slice (some ⟨g', o', none⟩) len cl') ∧ w'.cell? ⟨w.heap.size + 1, 9, none⟩ = some (.slice pn' nn' cn') ∧ w'.cell? ⟨w.heap.size, 9, none⟩ = some (.slice (some ⟨gn, on, none⟩) nn cn) ∧ w'.cell? ⟨gn, on + m, none⟩ = some (.string sn)) (exact HK5.out _ (by (repeat' (first | (with_reducible exact Below.refl _ _) | (with_reducible assumption) | (with_reducible refine Below.alloc ?_ ?_ _) | (with_reducible refine below_drewN ?_ _) | (with_reducible refine below_drew ?_) | (with_reducible refine below_ext ?_ ?_ _ _) | (with_reducible refine Below.setCell ?_ ?_ _) | (simp; done) | (simp; omega) | omega)))) (first
            | (go_at_call 57; ((with_reducible refine (HF9.out _ (by (repeat' (first | (with_reducible exact Below.refl _ _) | (with_reducible assumption) | (with_reducible refine Below.alloc ?_ ?_ _) | (with_reducible refine below_drewN ?_ _) | (with_reducible refine below_drew ?_) | (with_reducible refine below_ext ?_ ?_ _ _) | (with_reducible refine Below.setCell ?_ ?_ _) | (simp; done) | (simp; omega) | omega)))).mono ?_); rintro e w1 ⟨rfl, hb1⟩; obtain ⟨osF, dF, rfl⟩ := ext_of_below hb1; clear hb1)))
          go_upto_region 18 with fail
          refine wp_region_held_drew (S := fun w' => w'.cell? ⟨w.heap.size, 8, none⟩ = some (.slice (some ⟨g, o, none⟩) len cl) ∧ w'.cell? ⟨w.heap.size + 1, 8, none⟩ = some (.slice (some ⟨g', o', none⟩) len cl') ∧ w'.cell? ⟨g, o + m * 10, none⟩ = some (.int .i64 k1) ∧ w'.cell? ⟨g, o + m * 10 + 1, none⟩ = some (.bool yes1) ∧ w'.cell? ⟨g, o + m * 10 + 2, none⟩ = some (.bool neg1) ∧ w'.cell? ⟨g, o + m * 10 + 3, none⟩ = some (.int .u64 a1) ∧ w'.cell? ⟨g, o + m * 10 + 4, none⟩ = some (.int .u64 b1) ∧ w'.cell? ⟨g, o + m * 10 + 5, none⟩ = some (.int .i64 s1) ∧ w'.cell? ⟨g, o + m * 10 + 6, none⟩ = some (.string t1) ∧ w'.cell? ⟨g, o + m * 10 + 7, none⟩ = some (.int .i64 day1) ∧ w'.cell? ⟨g, o + m * 10 + 8, none⟩ = some (.slice pl1 nl1 cl1) ∧ w'.cell? ⟨g, o + m * 10 + 9, none⟩ = some (.slice pn1 nn1 cn1) ∧ w'.cell? ⟨g', o' + j * 10, none⟩ = some (.int .i64 k2) ∧ w'.cell? ⟨g', o' + j * 10 + 1, none⟩ = some (.bool yes2) ∧ w'.cell? ⟨g', o' + j * 10 + 2, none⟩ = some (.bool neg2) ∧ w'.cell? ⟨g', o' + j * 10 + 3, none⟩ = some (.int .u64 a2) ∧ w'.cell? ⟨g', o' + j * 10 + 4, none⟩ = some (.int .u64 b2) ∧ w'.cell? ⟨g', o' + j * 10 + 5, none⟩ = some (.int .i64 s2) ∧ w'.cell? ⟨g', o' + j * 10 + 6, none⟩ = some (.string t2) ∧ w'.cell? ⟨g', o' + j * 10 + 7, none⟩ = some (.int .i64 day2) ∧ w'.cell? ⟨g', o' + j * 10 + 8, none⟩ = some (.slice pl2 nl2 cl2) ∧ w'.cell? ⟨g', o' + j * 10 + 9, none⟩ = some (.slice pn2 nn2 cn2)) (by kernel_rfl) ?hSa (fun hHeld => ?resta)
          case hSa => ((try dsimp only); exact HK.out _ (by (repeat' (first | (with_reducible exact Below.refl _ _) | (with_reducible assumption) | (with_reducible refine Below.alloc ?_ ?_ _) | (with_reducible refine below_drewN ?_ _) | (with_reducible refine below_drew ?_) | (with_reducible refine below_ext ?_ ?_ _ _) | (with_reducible refine Below.setCell ?_ ?_ _) | (simp; done) | (simp; omega) | omega))))
          refine wpAnyH_take (i := 0) (oi := ({ dst := some 64, op := Op.move (Operand.tmp 5), type := 27, pos := "ref.go:162", after := #[], guard := none } : Oper)) (v := ?v1) rfl (by kernel_rfl) (by kernel_rfl) (by kernel_rfl) (fun _ _ _ h => h) (Or.inl ⟨by rfl, ?hy1⟩) (by assumption) ?re1
          case hy1 => (intro w hSw; (try dsimp only at hSw); go_simp; try with_reducible rfl)
          (try simp only [Act.put, List.setIfInBounds_toArray, List.set_cons_zero, List.set_cons_succ])
          refine wpAnyH_take (i := 1) (oi := ({ dst := some 65, op := Op.fieldAddr 30 (Operand.tmp 2) 5, type := 0, pos := "ref.go:162", after := #[], guard := none } : Oper)) (v := ?v2) rfl (by kernel_rfl) (by kernel_rfl) (by kernel_rfl) (fun _ _ _ h => h) (Or.inl ⟨by rfl, ?hy2⟩) (by assumption) ?re2
          case hy2 => (intro w hSw; (try dsimp only at hSw); go_simp; try with_reducible rfl)
          (try simp only [Act.put, List.setIfInBounds_toArray, List.set_cons_zero, List.set_cons_succ])
          refine wpAnyH_take (i := 2) (oi := ({ dst := some 66, op := Op.load 27 (Operand.tmp 65), type := 27, pos := "ref.go:162", after := #[{ on := 1, ground := Ground.data }], guard := none } : Oper)) (v := ?v3) rfl (by kernel_rfl) (by kernel_rfl) (by kernel_rfl) (fun _ _ _ h => h) (Or.inl ⟨by rfl, ?hy3⟩) (by assumption) ?re3
          case hy3 => (intro w hSw; (try dsimp only at hSw); go_simp; try with_reducible rfl)
          (try simp only [Act.put, List.setIfInBounds_toArray, List.set_cons_zero, List.set_cons_succ])
          refine wpAnyH_take (i := 3) (oi := ({ dst := some 67, op := Op.move (Operand.tmp 6), type := 3, pos := "ref.go:162", after := #[], guard := none } : Oper)) (v := ?v4) rfl (by kernel_rfl) (by kernel_rfl) (by kernel_rfl) (fun _ _ _ h => h) (Or.inl ⟨by rfl, ?hy4⟩) (by assumption) ?re4
          case hy4 => (intro w hSw; (try dsimp only at hSw); go_simp; try with_reducible rfl)
          (try simp only [Act.put, List.setIfInBounds_toArray, List.set_cons_zero, List.set_cons_succ])
          refine wpAnyH_take (i := 4) (oi := ({ dst := some 68, op := Op.indexAddr 27 (Operand.tmp 66) (Operand.tmp 67), type := 0, pos := "ref.go:162", after := #[{ on := 2, ground := Ground.data }, { on := 3, ground := Ground.data }], guard := none } : Oper)) (v := ?v5) rfl (by kernel_rfl) (by kernel_rfl) (by kernel_rfl) (fun _ _ _ h => h) (Or.inl ⟨by rfl, ?hy5⟩) (by assumption) ?re5
          case hy5 => (intro w hSw; (try dsimp only at hSw); go_simp; try with_reducible rfl)
          (try simp only [Act.put, List.setIfInBounds_toArray, List.set_cons_zero, List.set_cons_succ])
          refine wpAnyH_take (i := 5) (oi := ({ dst := some 69, op := Op.load 30 (Operand.tmp 68), type := 30, pos := "ref.go:162", after := #[{ on := 4, ground := Ground.data }], guard := none } : Oper)) (v := ?v6) rfl (by kernel_rfl) (by kernel_rfl) (by kernel_rfl) (fun _ _ _ h => h) (Or.inl ⟨by rfl, ?hy6⟩) (by assumption) ?re6
          case hy6 => (intro w hSw; (try dsimp only at hSw); go_simp; try with_reducible rfl)
          (try simp only [Act.put, List.setIfInBounds_toArray, List.set_cons_zero, List.set_cons_succ])
          refine wpAnyH_take (i := 6) (oi := ({ dst := some 70, op := Op.fieldAddr 30 (Operand.tmp 3) 5, type := 0, pos := "ref.go:162", after := #[], guard := none } : Oper)) (v := ?v7) rfl (by kernel_rfl) (by kernel_rfl) (by kernel_rfl) (fun _ _ _ h => h) (Or.inl ⟨by rfl, ?hy7⟩) (by assumption) ?re7
          case hy7 => (intro w hSw; (try dsimp only at hSw); go_simp; try with_reducible rfl)
          (try simp only [Act.put, List.setIfInBounds_toArray, List.set_cons_zero, List.set_cons_succ])
          refine wpAnyH_take (i := 7) (oi := ({ dst := some 71, op := Op.load 27 (Operand.tmp 70), type := 27, pos := "ref.go:162", after := #[{ on := 6, ground := Ground.data }], guard := none } : Oper)) (v := ?v8) rfl (by kernel_rfl) (by kernel_rfl) (by kernel_rfl) (fun _ _ _ h => h) (Or.inl ⟨by rfl, ?hy8⟩) (by assumption) ?re8
          case hy8 => (intro w hSw; (try dsimp only at hSw); go_simp; try with_reducible rfl)
          (try simp only [Act.put, List.setIfInBounds_toArray, List.set_cons_zero, List.set_cons_succ])
          refine wpAnyH_take (i := 8) (oi := ({ dst := some 72, op := Op.move (Operand.tmp 7), type := 3, pos := "ref.go:162", after := #[], guard := none } : Oper)) (v := ?v9) rfl (by kernel_rfl) (by kernel_rfl) (by kernel_rfl) (fun _ _ _ h => h) (Or.inl ⟨by rfl, ?hy9⟩) (by assumption) ?re9
          case hy9 => (intro w hSw; (try dsimp only at hSw); go_simp; try with_reducible rfl)
          (try simp only [Act.put, List.setIfInBounds_toArray, List.set_cons_zero, List.set_cons_succ])
          refine wpAnyH_take (i := 9) (oi := ({ dst := some 73, op := Op.indexAddr 27 (Operand.tmp 71) (Operand.tmp 72), type := 0, pos := "ref.go:162", after := #[{ on := 7, ground := Ground.data }, { on := 8, ground := Ground.data }], guard := none } : Oper)) (v := ?v10) rfl (by kernel_rfl) (by kernel_rfl) (by kernel_rfl) (fun _ _ _ h => h) (Or.inl ⟨by rfl, ?hy10⟩) (by assumption) ?re10
          case hy10 => (intro w hSw; (try dsimp only at hSw); go_simp; try with_reducible rfl)
          (try simp only [Act.put, List.setIfInBounds_toArray, List.set_cons_zero, List.set_cons_succ])
          refine wpAnyH_take (i := 10) (oi := ({ dst := some 74, op := Op.load 30 (Operand.tmp 73), type := 30, pos := "ref.go:162", after := #[{ on := 9, ground := Ground.data }], guard := none } : Oper)) (v := ?v11) rfl (by kernel_rfl) (by kernel_rfl) (by kernel_rfl) (fun _ _ _ h => h) (Or.inl ⟨by rfl, ?hy11⟩) (by assumption) ?re11
          case hy11 => (intro w hSw; (try dsimp only at hSw); go_simp; try with_reducible rfl)
          (try simp only [Act.put, List.setIfInBounds_toArray, List.set_cons_zero, List.set_cons_succ])
          refine wpAnyH_ready (rs := [11]) (by kernel_rfl) (by simp) ?_
          refine AllReadyH.cons (o := ({ dst := some 75, op := Op.call { callee := Callee.value (Operand.func 34), args := #[Operand.tmp 69, Operand.tmp 74], argTypes := #[30, 30] }, type := 30, pos := "ref.go:162", after := #[{ on := 5, ground := Ground.data }, { on := 10, ground := Ground.data }], guard := none } : Oper)) rfl (fun K hK => ?_) AllReadyH.nil
          go_simp
          (go_at_call 34; ((with_reducible refine (HE.out _ (by (repeat' (first | (with_reducible exact Below.refl _ _) | (with_reducible assumption) | (with_reducible refine Below.alloc ?_ ?_ _) | (with_reducible refine below_drewN ?_ _) | (with_reducible refine below_drew ?_) | (with_reducible refine below_ext ?_ ?_ _ _) | (with_reducible refine Below.setCell ?_ ?_ _) | (simp; done) | (simp; omega) | omega)))).mono ?_); rintro e w1 ⟨rfl, hb1⟩; obtain ⟨osC, dC, rfl⟩ := ext_of_below hb1; clear hb1))
          refine hK.out _ _ ?hS12 (fun hHeldN => ?rst12)
          case hS12 => ((try dsimp only); exact HK.out _ (by (repeat' (first | (with_reducible exact Below.refl _ _) | (with_reducible assumption) | (with_reducible refine Below.alloc ?_ ?_ _) | (with_reducible refine below_drewN ?_ _) | (with_reducible refine below_drew ?_) | (with_reducible refine below_ext ?_ ?_ _ _) | (with_reducible refine Below.setCell ?_ ?_ _) | (simp; done) | (simp; omega) | omega))))
          clear hHeld hK K
          have hHeld := hHeldN
          clear hHeldN
          refine wpAnyH_ready (rs := [12]) (by kernel_rfl) (by simp) ?_
          refine AllReadyH.cons (o := ({ dst := some 76, op := Op.buildSlice 27 1 #[(0, Operand.tmp 75)], type := 27, pos := "ref.go:162", after := #[{ on := 11, ground := Ground.data }], guard := none } : Oper)) rfl (fun K hK => ?_) AllReadyH.nil
          go_simp
          refine hK.out _ _ ?hS13 (fun hHeldN => ?rst13)
          case hS13 => ((try dsimp only); exact HK.out _ (by (repeat' (first | (with_reducible exact Below.refl _ _) | (with_reducible assumption) | (with_reducible refine Below.alloc ?_ ?_ _) | (with_reducible refine below_drewN ?_ _) | (with_reducible refine below_drew ?_) | (with_reducible refine below_ext ?_ ?_ _ _) | (with_reducible refine Below.setCell ?_ ?_ _) | (simp; done) | (simp; omega) | omega))))
          clear hHeld hK K
          have hHeld := hHeldN
          clear hHeldN
          (try simp only [Act.put, List.setIfInBounds_toArray, List.set_cons_zero, List.set_cons_succ])
          refine wpAnyH_ready (rs := [13]) (by kernel_rfl) (by simp) ?_
          refine AllReadyH.cons (o := ({ dst := some 77, op := Op.call { callee := Callee.builtin Builtin.append, args := #[Operand.tmp 64, Operand.tmp 76], argTypes := #[27, 27] }, type := 27, pos := "ref.go:162", after := #[{ on := 0, ground := Ground.data }, { on := 12, ground := Ground.data }, { on := 11, ground := Ground.chain }], guard := none } : Oper)) rfl (fun K hK => ?_) AllReadyH.nil
          (rw [if_pos (by rfl)]; refine append_tv _ _ rfl rfl _ _ qk qy _ (HPB.out.grow (by (repeat' (first | (with_reducible exact Below.refl _ _) | (with_reducible assumption) | (with_reducible refine Below.alloc ?_ ?_ _) | (with_reducible refine below_drewN ?_ _) | (with_reducible refine below_drew ?_) | (with_reducible refine below_ext ?_ ?_ _ _) | (with_reducible refine Below.setCell ?_ ?_ _) | (simp; done) | (simp; omega) | omega)))) (by simp) rfl (by omega) ?_; intro lv3 w3 hpb3)
          refine hK.out _ _ ?hS14 (fun hHeldN => ?rst14)
          case hS14 => ((try dsimp only); exact HK.out _ (Below.trans (by (repeat' (first | (with_reducible exact Below.refl _ _) | (with_reducible assumption) | (with_reducible refine Below.alloc ?_ ?_ _) | (with_reducible refine below_drewN ?_ _) | (with_reducible refine below_drew ?_) | (with_reducible refine below_ext ?_ ?_ _ _) | (with_reducible refine Below.setCell ?_ ?_ _) | (simp; done) | (simp; omega) | omega))) (hpb3.2.mono (by simp <;> omega))))
          clear hHeld hK K
          have hHeld := hHeldN
          clear hHeldN
          refine wpAnyH_ready (rs := [14]) (by kernel_rfl) (by simp) ?_
          refine AllReadyH.cons (o := ({ dst := some 5, op := Op.assign (Operand.tmp 77), type := 27, pos := "ref.go:162", after := #[{ on := 13, ground := Ground.data }, { on := 13, ground := Ground.chain }, { on := 0, ground := Ground.phase }, { on := 1, ground := Ground.phase }, { on := 2, ground := Ground.phase }, { on := 3, ground := Ground.phase }, { on := 4, ground := Ground.phase }, { on := 5, ground := Ground.phase }, { on := 6, ground := Ground.phase }, { on := 7, ground := Ground.phase }, { on := 8, ground := Ground.phase }, { on := 9, ground := Ground.phase }, { on := 10, ground := Ground.phase }, { on := 11, ground := Ground.phase }, { on := 12, ground := Ground.phase }, { on := 13, ground := Ground.phase }], guard := none } : Oper)) rfl (fun K hK => ?_) AllReadyH.nil
          go_simp
          refine hK.out _ _ ?hS15 (fun hHeldN => ?rst15)
          case hS15 => ((try dsimp only); exact HK.out _ (Below.trans (by (repeat' (first | (with_reducible exact Below.refl _ _) | (with_reducible assumption) | (with_reducible refine Below.alloc ?_ ?_ _) | (with_reducible refine below_drewN ?_ _) | (with_reducible refine below_drew ?_) | (with_reducible refine below_ext ?_ ?_ _ _) | (with_reducible refine Below.setCell ?_ ?_ _) | (simp; done) | (simp; omega) | omega))) (hpb3.2.mono (by simp <;> omega))))
          clear hHeld hK K
          have hHeld := hHeldN
          clear hHeldN
          (try simp only [Act.put, List.setIfInBounds_toArray, List.set_cons_zero, List.set_cons_succ])
          refine wpAnyH_done (by kernel_rfl) ?_ _
          clear hHeld
          go_wp2
          go_roundw
          case rel => exact ⟨m + 1, ps ++ [(qk, qy)], by go_num, by omega, by simp; omega, hpb3, HN.out⟩
          case measure => simp [intOf]; omega
        · have hfi : findI ns' sn = -1 := by unfold findI; rw [if_neg (by have := HNM.out; omega)]
          rw [hfi] at HF9
          have HN := Lib.hid (show tot = (1, false) by
            rw [← HS.out]
            exact HOUT.out _ m h1 h3 (by rw [← HSN.out]; omega))
          clear hmem hfi cn9 HA HB HX HSN h3 h1 HS
          subst hbx hbz
          go_upto_region 15 with fail
          go_region_held3 (fun w' => w'.cell? ⟨w.heap.size + 1, 0, none⟩ = some (.int .i64 6) ∧ w'.cell? ⟨w.heap.size + 1, 1, none⟩ = some (.bool yes') ∧ w'.cell? ⟨w.heap.size + 1, 2, none⟩ = some (.bool neg') ∧ w'.cell? ⟨w.heap.size + 1, 3, none⟩ = some (.int .u64 (Word.hi c' : Int)) ∧ w'.cell? ⟨w.heap.size + 1, 4, none⟩ = some (.int .u64 (lo c' : Int)) ∧ w'.cell? ⟨w.heap.size + 1, 5, none⟩ = some (.int .i64 s') ∧ w'.cell? ⟨w.heap.size + 1, 6, none⟩ = some (.string t') ∧ w'.cell? ⟨w.heap.size + 1, 7, none⟩ = some (.int .i64 day') ∧ w'.cell? ⟨w.heap.size + 1, 8, none⟩ = some (.slice pl' len cl') ∧ w'.cell? ⟨w.heap.size + 1, 9, none⟩ = some (.slice pn' nn' cn') ∧ w'.cell? ⟨w.heap.size, 9, none⟩ = some (.slice (some ⟨gn, on, none⟩) nn cn) ∧ w'.cell? ⟨gn, on + m, none⟩ = some (.string sn)) (exact HK5.out _ (by (repeat' (first | (with_reducible exact Below.refl _ _) | (with_reducible assumption) | (with_reducible refine Below.alloc ?_ ?_ _) | (with_reducible refine below_drewN ?_ _) | (with_reducible refine below_drew ?_) | (with_reducible refine below_ext ?_ ?_ _ _) | (with_reducible refine Below.setCell ?_ ?_ _) | (simp; done) | (simp; omega) | omega)))) (first
            | (go_at_call 57; ((with_reducible refine (HF9.out _ (by (repeat' (first | (with_reducible exact Below.refl _ _) | (with_reducible assumption) | (with_reducible refine Below.alloc ?_ ?_ _) | (with_reducible refine below_drewN ?_ _) | (with_reducible refine below_drew ?_) | (with_reducible refine below_ext ?_ ?_ _ _) | (with_reducible refine Below.setCell ?_ ?_ _) | (simp; done) | (simp; omega) | omega)))).mono ?_); rintro e w1 ⟨rfl, hb1⟩; obtain ⟨osF, dF, rfl⟩ := ext_of_below hb1; clear hb1)))
          go_wp2_with (first
            | (go_at_call 56; ((with_reducible refine (HTr.out _ _).mono ?_); rintro e w1 ⟨rfl, hb1⟩; obtain ⟨osG, dG, rfl⟩ := ext_of_below hb1; clear hb1)))
          go_returns
          exact ⟨by rw [HN.out], by (repeat' (first | (with_reducible exact Below.refl _ _) | (with_reducible assumption) | (with_reducible refine Below.alloc ?_ ?_ _) | (with_reducible refine below_drewN ?_ _) | (with_reducible refine below_drew ?_) | (with_reducible refine below_ext ?_ ?_ _ _) | (with_reducible refine Below.setCell ?_ ?_ _) | (simp; done) | (simp; omega) | omega))⟩
      · obtain rfl : m = len := by omega
        have hi : ¬ (m : Int) < m := by omega
        have HR := Lib.hid (show tot = all3 (1, true) ps by
          rw [← HS.out, ← HLN.out, List.drop_length, eqE_nil, fold_all _ _ (.inl rfl)])
        have HAL := Lib.hid (all_any _ (ps.map tvV) _ _ HPB.out.sl (by rw [List.length_map]; omega) (Nat.le_refl _))
        rw [tri_tv] at HAL
        subst hbx hbz
        go_wp2_with (first
          | (go_at_call 58; (with_reducible refine HAL.out.mono ?_); rintro e w1 ⟨rfl, hb1⟩; obtain ⟨osA, dA, rfl⟩ := ext_of_below hb1; clear hb1))
        go_returns
        exact ⟨by rw [HR.out], by (repeat' (first | (with_reducible exact Below.refl _ _) | (with_reducible assumption) | (with_reducible refine Below.alloc ?_ ?_ _) | (with_reducible refine below_drewN ?_ _) | (with_reducible refine below_drew ?_) | (with_reducible refine below_ext ?_ ?_ _ _) | (with_reducible refine Below.setCell ?_ ?_ _) | (simp; done) | (simp; omega) | omega))⟩
  · rw [if_neg hlen]
    have hne : ((l.length : Int) != (l'.length : Int)) = true := by simp [bne]; omega
    generalize l.length = a at *
    generalize l'.length = b at *
    generalize ns.length = a2 at *
    generalize ns'.length = b2 at *
    clear hL hL' hN hN' ih hf hf' hc hc' hl'
    go_enter Tryz.func34, Tryz.ntmps34
    go_wp2_with (first
      | (go_at_call 56; ((with_reducible refine (HTr.out _ _).mono ?_); rintro e w1 ⟨rfl, hb1⟩; obtain ⟨osA, dA, rfl⟩ := ext_of_below hb1; clear hb1)))
    go_returns
    exact ⟨rfl, by (repeat' (first | (with_reducible exact Below.refl _ _) | (with_reducible assumption) | (with_reducible refine Below.alloc ?_ ?_ _) | (with_reducible refine below_drewN ?_ _) | (with_reducible refine below_drew ?_) | (with_reducible refine below_ext ?_ ?_ _ _) | (with_reducible refine Below.setCell ?_ ?_ _) | (simp; done) | (simp; omega) | omega))⟩
end Go.Proofs.YtfffjbnbhmohjaaGreatDoor
