/-
  HitNumbers where nothing is a number.
-/
import Derived.Test.YtjkallelniggpaaGreatDoorBn
import Derived.BigRegion
namespace Go.Proofs.YtjkallelniggpaaGreatDoor
open Go.RowKit Word Txt
attribute [local go_sem] setCell_drewN cell?_ext frozen?_ext shape?_ext setCell_ext lt_1' ne_1' en_1' le_1' lt_2' ne_2' en_2' le_2' lt_3' ne_3' en_3' le_3' lt_4' ne_4' en_4' le_4' lt_5' ne_5' en_5' le_5' lt_6' ne_6' en_6' le_6' lt_7' ne_7' en_7' le_7' lt_8' ne_8' en_8' le_8' lt_9' ne_9' en_9' le_9' lt_10' ne_10' en_10' le_10' lt_11' ne_11' en_11' le_11' lt_12' ne_12' en_12' le_12'

theorem cutW {P : Program} {c : Code} {Q : Exit → Act → World → Prop} {a : Act} {w : World} (F : World → Prop) (h : F w) (hK : ∀ W, F W → Code.wp P c Q a W) : Code.wp P c Q a w := hK w h
set_option maxRecDepth 100000 in
set_option maxHeartbeats 4000000 in
theorem numbers_null (w : World) (pn : Option Addr) (nn cn : Nat) (po : Option Addr) (no co : Nat) (pr : Option Addr) (nr cr : Nat) (pt : Option Addr) (nt ct : Nat) (hT : Tens w) (hU : Tabs w) (k : Nat) (hk : k ≤ 60)
    (hr : (nr ≠ 0 ∧ k = nr) ∨ (nr = 0 ∧ 0 < nt ∧ k = 1) ∨ (nr = 0 ∧ nt = 0 ∧ k = 0))
    (hd : ∀ p : Int, 8 ≤ p → p ≤ 10 → ∀ w', Below w.heap.size w w' → Calls Tryz.prog 5 #[.int .i64 p, RowsV (.slice pn nn cn) (.slice po no co) (.slice pr nr cr) (.slice pt nt ct)] w' fun e w'' => NumR (none, 0) w' e w'')
    (hd11 : ∀ w', Below w.heap.size w w' → Calls Tryz.prog 5 #[.int .i64 11, RowsV (.slice pn nn cn) (.slice po no co) (.slice pr nr cr) (.slice pt nt ct)] w' fun e w'' => NumR (some (false, k, 0), 0) w' e w'') :
    Calls Tryz.prog 3 #[RowsV (.slice pn nn cn) (.slice po no co) (.slice pr nr cr) (.slice pt nt ct)] w fun e w' => e = .returned (.bool true) ∧ Below w.heap.size w w' := by
  have HK := Lib.hid (fun w' (hb : Below w.heap.size w w') => hknown_any w' (hT.below hb) (hU.below hb))
  have HDA := Lib.hid (fun w' hb => hd 9 (by decide) (by decide) w' hb)
  have HDB := Lib.hid (fun w' hb => hd 10 (by decide) (by decide) w' hb)
  have HDC := Lib.hid (fun w' hb => hd 8 (by decide) (by decide) w' hb)
  have HDD := Lib.hid hd11
  have HNM := Lib.hid (fun w' => hnum_any (k : Int) w')
  have HSM := Lib.hid (fun pl cl pn cn W => same_k k hk pl cl pn cn W)
  clear hd hd11 hT hU
  rcases hr with ⟨h1, rfl⟩ | ⟨rfl, h2, rfl⟩ | ⟨rfl, rfl, rfl⟩
  · have h3 : ((k : Int) == 0) = false := beq_eq_false_iff_ne.2 (by omega)
    have h4 : ¬ (k : Int) = 0 := by omega
    have h5 : (k : Int) ≤ 60 := by omega
    have h6 : IntKind.u64.wrap (k : Int) = (k : Int) := wrapN k (by omega)
    go_enter Tryz.func3, Tryz.ntmps3
    go_wp2_with (first
      | (go_at_call 4; ((with_reducible refine (HK.out _ (by (repeat' (first | (with_reducible exact Below.refl _ _) | (with_reducible assumption) | (with_reducible refine Below.alloc ?_ ?_ _) | (with_reducible refine below_drewN ?_ _) | (with_reducible refine below_drew ?_) | (with_reducible refine below_ext ?_ ?_ _ _) | (with_reducible refine Below.setCell ?_ ?_ _) | (simp; done) | (simp; omega) | omega)))).mono ?_); rintro e w1 ⟨rfl, hb1⟩; obtain ⟨osK, dK, rfl⟩ := ext_of_below hb1; clear hb1))
      | (go_at_call 5; (with_reducible refine (HDA.out _ (by (repeat' (first | (with_reducible exact Below.refl _ _) | (with_reducible assumption) | (with_reducible refine Below.alloc ?_ ?_ _) | (with_reducible refine below_drewN ?_ _) | (with_reducible refine below_drew ?_) | (with_reducible refine below_ext ?_ ?_ _ _) | (with_reducible refine Below.setCell ?_ ?_ _) | (simp; done) | (simp; omega) | omega)))).mono ?_); rintro e w1 ⟨x, rfl, hb1, hx⟩; obtain ⟨qlA, dlA, qnA, dnA, rfl⟩ := (show ∃ pl cl pn cn, x = ZC pl cl pn cn from hx); obtain ⟨osA, dA, rfl⟩ := ext_of_below hb1; clear hb1 hx)
      | (go_at_call 5; (with_reducible refine (HDB.out _ (by (repeat' (first | (with_reducible exact Below.refl _ _) | (with_reducible assumption) | (with_reducible refine Below.alloc ?_ ?_ _) | (with_reducible refine below_drewN ?_ _) | (with_reducible refine below_drew ?_) | (with_reducible refine below_ext ?_ ?_ _ _) | (with_reducible refine Below.setCell ?_ ?_ _) | (simp; done) | (simp; omega) | omega)))).mono ?_); rintro e w1 ⟨x, rfl, hb1, hx⟩; obtain ⟨qlB, dlB, qnB, dnB, rfl⟩ := (show ∃ pl cl pn cn, x = ZC pl cl pn cn from hx); obtain ⟨osB, dB, rfl⟩ := ext_of_below hb1; clear hb1 hx)
      | (go_at_call 5; (with_reducible refine (HDC.out _ (by (repeat' (first | (with_reducible exact Below.refl _ _) | (with_reducible assumption) | (with_reducible refine Below.alloc ?_ ?_ _) | (with_reducible refine below_drewN ?_ _) | (with_reducible refine below_drew ?_) | (with_reducible refine below_ext ?_ ?_ _ _) | (with_reducible refine Below.setCell ?_ ?_ _) | (simp; done) | (simp; omega) | omega)))).mono ?_); rintro e w1 ⟨x, rfl, hb1, hx⟩; obtain ⟨qlC, dlC, qnC, dnC, rfl⟩ := (show ∃ pl cl pn cn, x = ZC pl cl pn cn from hx); obtain ⟨osC, dC, rfl⟩ := ext_of_below hb1; clear hb1 hx)
      | (go_at_call 5; (with_reducible refine (HDD.out _ (by (repeat' (first | (with_reducible exact Below.refl _ _) | (with_reducible assumption) | (with_reducible refine Below.alloc ?_ ?_ _) | (with_reducible refine below_drewN ?_ _) | (with_reducible refine below_drew ?_) | (with_reducible refine below_ext ?_ ?_ _ _) | (with_reducible refine Below.setCell ?_ ?_ _) | (simp; done) | (simp; omega) | omega)))).mono ?_); rintro e w1 ⟨x, rfl, hb1, hx⟩; obtain ⟨qlD, dlD, qnD, dnD, rfl⟩ := (show ∃ pl cl pn cn, x = NC (false, k, 0) pl cl pn cn from hx); obtain ⟨osD, dD, rfl⟩ := ext_of_below hb1; clear hb1 hx))
    obtain ⟨bl, hbl⟩ : ∃ b, b = w.heap.size + 1 + osK.size + osA.size := ⟨_, rfl⟩
    rw [← hbl]
    obtain ⟨bh, hbh⟩ : ∃ b, b = bl + 1 + osB.size := ⟨_, rfl⟩
    rw [← hbh]
    obtain ⟨bs, hbs⟩ : ∃ b, b = bh + 1 + osC.size := ⟨_, rfl⟩
    rw [← hbs]
    obtain ⟨bn, hbn⟩ : ∃ b, b = bs + 1 + osD.size := ⟨_, rfl⟩
    rw [← hbn]
    refine cutW (fun W => Below w.heap.size w W ∧ bl < W.heap.size ∧ bh < W.heap.size ∧ bs < W.heap.size ∧ bn < W.heap.size ∧ W.cell? ⟨bn, 0, none⟩ = some (.int .i64 2) ∧ W.cell? ⟨bn, 1, none⟩ = some (.bool false) ∧ W.cell? ⟨bn, 2, none⟩ = some (.bool false) ∧ W.cell? ⟨bn, 3, none⟩ = some (.int .u64 (hi k : Int)) ∧ W.cell? ⟨bn, 4, none⟩ = some (.int .u64 (lo k : Int)) ∧ W.cell? ⟨bn, 5, none⟩ = some (.int .i64 0) ∧ W.cell? ⟨bn, 6, none⟩ = some (.string ⟨#[]⟩) ∧ W.cell? ⟨bn, 7, none⟩ = some (.int .i64 0) ∧ W.cell? ⟨bn, 8, none⟩ = some (.slice qlD 0 dlD) ∧ W.cell? ⟨bn, 9, none⟩ = some (.slice qnD 0 dnD) ∧ W.cell? ⟨bl, 0, none⟩ = some (.int .i64 0) ∧ W.cell? ⟨bh, 0, none⟩ = some (.int .i64 0) ∧ W.cell? ⟨bs, 0, none⟩ = some (.int .i64 0)) ?_ ?_
    · refine ⟨by (repeat' (first | (with_reducible exact Below.refl _ _) | (with_reducible assumption) | (with_reducible refine Below.alloc ?_ ?_ _) | (with_reducible refine below_drewN ?_ _) | (with_reducible refine below_drew ?_) | (with_reducible refine below_ext ?_ ?_ _ _) | (with_reducible refine Below.setCell ?_ ?_ _) | (simp; done) | (simp; omega) | omega)), ?_⟩
      subst hbl hbh hbs hbn
      go_simp
    intro W ⟨hbW, hlW, hhW, hsW, hnW, y0, y1, y2, y3, y4, y5, y6, y7, y8, y9, yl, yh, ys⟩
    have KEEP := Lib.hid (show ∀ w', Below W.heap.size W w' → w'.cell? ⟨bn, 0, none⟩ = some (.int .i64 2) ∧ w'.cell? ⟨bn, 1, none⟩ = some (.bool false) ∧ w'.cell? ⟨bn, 2, none⟩ = some (.bool false) ∧ w'.cell? ⟨bn, 3, none⟩ = some (.int .u64 (hi k : Int)) ∧ w'.cell? ⟨bn, 4, none⟩ = some (.int .u64 (lo k : Int)) ∧ w'.cell? ⟨bn, 5, none⟩ = some (.int .i64 0) ∧ w'.cell? ⟨bn, 6, none⟩ = some (.string ⟨#[]⟩) ∧ w'.cell? ⟨bn, 7, none⟩ = some (.int .i64 0) ∧ w'.cell? ⟨bn, 8, none⟩ = some (.slice qlD 0 dlD) ∧ w'.cell? ⟨bn, 9, none⟩ = some (.slice qnD 0 dnD) ∧ w'.cell? ⟨bl, 0, none⟩ = some (.int .i64 0) ∧ w'.cell? ⟨bh, 0, none⟩ = some (.int .i64 0) from fun w' hb => ⟨(hb.cell (p := ⟨bn, 0, none⟩) hnW).trans y0, (hb.cell (p := ⟨bn, 1, none⟩) hnW).trans y1, (hb.cell (p := ⟨bn, 2, none⟩) hnW).trans y2, (hb.cell (p := ⟨bn, 3, none⟩) hnW).trans y3, (hb.cell (p := ⟨bn, 4, none⟩) hnW).trans y4, (hb.cell (p := ⟨bn, 5, none⟩) hnW).trans y5, (hb.cell (p := ⟨bn, 6, none⟩) hnW).trans y6, (hb.cell (p := ⟨bn, 7, none⟩) hnW).trans y7, (hb.cell (p := ⟨bn, 8, none⟩) hnW).trans y8, (hb.cell (p := ⟨bn, 9, none⟩) hnW).trans y9, (hb.cell (p := ⟨bl, 0, none⟩) hlW).trans yl, (hb.cell (p := ⟨bh, 0, none⟩) hhW).trans yh⟩)
    clear hbl hbh hbs hbn
    refine wp_region_held_drew (S := fun w' => w'.cell? ⟨bn, 0, none⟩ = some (.int .i64 2) ∧ w'.cell? ⟨bn, 1, none⟩ = some (.bool false) ∧ w'.cell? ⟨bn, 2, none⟩ = some (.bool false) ∧ w'.cell? ⟨bn, 3, none⟩ = some (.int .u64 (hi k : Int)) ∧ w'.cell? ⟨bn, 4, none⟩ = some (.int .u64 (lo k : Int)) ∧ w'.cell? ⟨bn, 5, none⟩ = some (.int .i64 0) ∧ w'.cell? ⟨bn, 6, none⟩ = some (.string ⟨#[]⟩) ∧ w'.cell? ⟨bn, 7, none⟩ = some (.int .i64 0) ∧ w'.cell? ⟨bn, 8, none⟩ = some (.slice qlD 0 dlD) ∧ w'.cell? ⟨bn, 9, none⟩ = some (.slice qnD 0 dnD) ∧ w'.cell? ⟨bl, 0, none⟩ = some (.int .i64 0) ∧ w'.cell? ⟨bh, 0, none⟩ = some (.int .i64 0)) (by kernel_rfl) ?n1xhSa (fun hHeld => ?n1xresta)
    case n1xhSa => ((try dsimp only); exact KEEP.out _ (by (repeat' (first | (with_reducible exact Below.refl _ _) | (with_reducible assumption) | (with_reducible refine Below.alloc ?_ ?_ _) | (with_reducible refine below_drewN ?_ _) | (with_reducible refine below_drew ?_) | (with_reducible refine below_ext ?_ ?_ _ _) | (with_reducible refine Below.setCell ?_ ?_ _) | (simp; done) | (simp; omega) | omega))))
    refine wpAnyH_take (i := 0) (oi := ({ dst := some 73, op := Op.move (Operand.tmp 4), type := 35, pos := "law.go:156", after := #[], guard := none } : Oper)) (v := ?n1xv1) rfl (by kernel_rfl) (by kernel_rfl) (by kernel_rfl) (fun _ _ _ h => h) (Or.inl ⟨by rfl, ?n1xhy1⟩) (by assumption) ?n1xre1
    case n1xhy1 => (intro w hSw; (try dsimp only at hSw); go_simp; try with_reducible rfl)
    (try simp only [Act.put, List.setIfInBounds_toArray, List.set_cons_zero, List.set_cons_succ])
    refine wpAnyH_take (i := 1) (oi := ({ dst := some 74, op := Op.binOp BinOp.neq 35 (Operand.tmp 73) (Operand.const (Value.int IntKind.i64 0)) 35, type := 4, pos := "law.go:156", after := #[{ on := 0, ground := Ground.data }], guard := none } : Oper)) (v := ?n1xv2) rfl (by kernel_rfl) (by kernel_rfl) (by kernel_rfl) (fun _ _ _ h => h) (Or.inl ⟨by rfl, ?n1xhy2⟩) (by assumption) ?n1xre2
    case n1xhy2 => (intro w hSw; (try dsimp only at hSw); go_simp; try with_reducible rfl)
    (try simp only [Act.put, List.setIfInBounds_toArray, List.set_cons_zero, List.set_cons_succ])
    refine wpAnyH_take (i := 2) (oi := ({ dst := some 75, op := Op.move (Operand.tmp 74), type := 4, pos := "law.go:156", after := #[{ on := 1, ground := Ground.data }], guard := none } : Oper)) (v := ?n1xv3) rfl (by kernel_rfl) (by kernel_rfl) (by kernel_rfl) (fun _ _ _ h => h) (Or.inl ⟨by rfl, ?n1xhy3⟩) (by assumption) ?n1xre3
    case n1xhy3 => (intro w hSw; (try dsimp only at hSw); go_simp; try with_reducible rfl)
    (try simp only [Act.put, List.setIfInBounds_toArray, List.set_cons_zero, List.set_cons_succ])
    refine wpAnyH_take (i := 3) (oi := ({ dst := some 76, op := Op.move (Operand.tmp 6), type := 35, pos := "law.go:156", after := #[{ on := 2, ground := Ground.guard }], guard := some (2, false) } : Oper)) (v := ?n1xv4) rfl (by kernel_rfl) (by kernel_rfl) (by kernel_rfl) (fun _ _ _ h => h) (Or.inl ⟨by rfl, ?n1xhy4⟩) (by assumption) ?n1xre4
    case n1xhy4 => (intro w hSw; (try dsimp only at hSw); go_simp; try with_reducible rfl)
    (try simp only [Act.put, List.setIfInBounds_toArray, List.set_cons_zero, List.set_cons_succ])
    refine wpAnyH_take (i := 4) (oi := ({ dst := some 77, op := Op.binOp BinOp.neq 35 (Operand.tmp 76) (Operand.const (Value.int IntKind.i64 0)) 35, type := 4, pos := "law.go:156", after := #[{ on := 3, ground := Ground.data }, { on := 2, ground := Ground.guard }], guard := some (2, false) } : Oper)) (v := ?n1xv5) rfl (by kernel_rfl) (by kernel_rfl) (by kernel_rfl) (fun _ _ _ h => h) (Or.inl ⟨by rfl, ?n1xhy5⟩) (by assumption) ?n1xre5
    case n1xhy5 => (intro w hSw; (try dsimp only at hSw); go_simp; try with_reducible rfl)
    (try simp only [Act.put, List.setIfInBounds_toArray, List.set_cons_zero, List.set_cons_succ])
    refine wpAnyH_take (i := 5) (oi := ({ dst := some 78, op := Op.pick (Operand.tmp 75) (Operand.const (Value.bool true)) (Operand.tmp 77), type := 4, pos := "law.go:156", after := #[{ on := 2, ground := Ground.data }, { on := 4, ground := Ground.data }], guard := none } : Oper)) (v := ?n1xv6) rfl (by kernel_rfl) (by kernel_rfl) (by kernel_rfl) (fun _ _ _ h => h) (Or.inl ⟨by rfl, ?n1xhy6⟩) (by assumption) ?n1xre6
    case n1xhy6 => (intro w hSw; (try dsimp only at hSw); go_simp; try with_reducible rfl)
    (try simp only [Act.put, List.setIfInBounds_toArray, List.set_cons_zero, List.set_cons_succ])
    refine wpAnyH_take (i := 6) (oi := ({ dst := some 79, op := Op.move (Operand.tmp 78), type := 4, pos := "law.go:156", after := #[{ on := 5, ground := Ground.data }, { on := 2, ground := Ground.chain }], guard := none } : Oper)) (v := ?n1xv7) rfl (by kernel_rfl) (by kernel_rfl) (by kernel_rfl) (fun _ _ _ h => h) (Or.inl ⟨by rfl, ?n1xhy7⟩) (by assumption) ?n1xre7
    case n1xhy7 => (intro w hSw; (try dsimp only at hSw); go_simp; try with_reducible rfl)
    (try simp only [Act.put, List.setIfInBounds_toArray, List.set_cons_zero, List.set_cons_succ])
    refine wpAnyH_take (i := 7) (oi := ({ dst := some 80, op := Op.move (Operand.tmp 10), type := 35, pos := "law.go:156", after := #[{ on := 6, ground := Ground.guard }], guard := some (6, false) } : Oper)) (v := ?n1xv8) rfl (by kernel_rfl) (by kernel_rfl) (by kernel_rfl) (fun _ _ _ h => h) (Or.inl ⟨by rfl, ?n1xhy8⟩) (by assumption) ?n1xre8
    case n1xhy8 => (intro w hSw; (try dsimp only at hSw); go_simp; try with_reducible rfl)
    (try simp only [Act.put, List.setIfInBounds_toArray, List.set_cons_zero, List.set_cons_succ])
    refine wpAnyH_take (i := 8) (oi := ({ dst := some 81, op := Op.binOp BinOp.neq 35 (Operand.tmp 80) (Operand.const (Value.int IntKind.i64 0)) 35, type := 4, pos := "law.go:156", after := #[{ on := 7, ground := Ground.data }, { on := 6, ground := Ground.guard }], guard := some (6, false) } : Oper)) (v := ?n1xv9) rfl (by kernel_rfl) (by kernel_rfl) (by kernel_rfl) (fun _ _ _ h => h) (Or.inl ⟨by rfl, ?n1xhy9⟩) (by assumption) ?n1xre9
    case n1xhy9 => (intro w hSw; (try dsimp only at hSw); go_simp; try with_reducible rfl)
    (try simp only [Act.put, List.setIfInBounds_toArray, List.set_cons_zero, List.set_cons_succ])
    refine wpAnyH_take (i := 9) (oi := ({ dst := some 82, op := Op.pick (Operand.tmp 79) (Operand.const (Value.bool true)) (Operand.tmp 81), type := 4, pos := "law.go:156", after := #[{ on := 6, ground := Ground.data }, { on := 8, ground := Ground.data }], guard := none } : Oper)) (v := ?n1xv10) rfl (by kernel_rfl) (by kernel_rfl) (by kernel_rfl) (fun _ _ _ h => h) (Or.inl ⟨by rfl, ?n1xhy10⟩) (by assumption) ?n1xre10
    case n1xhy10 => (intro w hSw; (try dsimp only at hSw); go_simp; try with_reducible rfl)
    (try simp only [Act.put, List.setIfInBounds_toArray, List.set_cons_zero, List.set_cons_succ])
    refine wpAnyH_take (i := 10) (oi := ({ dst := some 83, op := Op.move (Operand.tmp 82), type := 4, pos := "law.go:156", after := #[{ on := 9, ground := Ground.data }, { on := 6, ground := Ground.chain }], guard := none } : Oper)) (v := ?n1xv11) rfl (by kernel_rfl) (by kernel_rfl) (by kernel_rfl) (fun _ _ _ h => h) (Or.inl ⟨by rfl, ?n1xhy11⟩) (by assumption) ?n1xre11
    case n1xhy11 => (intro w hSw; (try dsimp only at hSw); go_simp; try with_reducible rfl)
    (try simp only [Act.put, List.setIfInBounds_toArray, List.set_cons_zero, List.set_cons_succ])
    refine wpAnyH_take (i := 11) (oi := ({ dst := some 84, op := Op.move (Operand.tmp 8), type := 35, pos := "law.go:156", after := #[{ on := 10, ground := Ground.guard }], guard := some (10, false) } : Oper)) (v := ?n1xv12) rfl (by kernel_rfl) (by kernel_rfl) (by kernel_rfl) (fun _ _ _ h => h) (Or.inl ⟨by rfl, ?n1xhy12⟩) (by assumption) ?n1xre12
    case n1xhy12 => (intro w hSw; (try dsimp only at hSw); go_simp; try with_reducible rfl)
    (try simp only [Act.put, List.setIfInBounds_toArray, List.set_cons_zero, List.set_cons_succ])
    refine wpAnyH_take (i := 12) (oi := ({ dst := some 85, op := Op.binOp BinOp.neq 35 (Operand.tmp 84) (Operand.const (Value.int IntKind.i64 0)) 35, type := 4, pos := "law.go:156", after := #[{ on := 11, ground := Ground.data }, { on := 10, ground := Ground.guard }], guard := some (10, false) } : Oper)) (v := ?n1xv13) rfl (by kernel_rfl) (by kernel_rfl) (by kernel_rfl) (fun _ _ _ h => h) (Or.inl ⟨by rfl, ?n1xhy13⟩) (by assumption) ?n1xre13
    case n1xhy13 => (intro w hSw; (try dsimp only at hSw); go_simp; try with_reducible rfl)
    (try simp only [Act.put, List.setIfInBounds_toArray, List.set_cons_zero, List.set_cons_succ])
    refine wpAnyH_take (i := 13) (oi := ({ dst := some 86, op := Op.move (Operand.tmp 85), type := 4, pos := "law.go:156", after := #[{ on := 12, ground := Ground.data }, { on := 10, ground := Ground.chain }, { on := 10, ground := Ground.guard }], guard := some (10, false) } : Oper)) (v := ?n1xv14) rfl (by kernel_rfl) (by kernel_rfl) (by kernel_rfl) (fun _ _ _ h => h) (Or.inl ⟨by rfl, ?n1xhy14⟩) (by assumption) ?n1xre14
    case n1xhy14 => (intro w hSw; (try dsimp only at hSw); go_simp; try with_reducible rfl)
    (try simp only [Act.put, List.setIfInBounds_toArray, List.set_cons_zero, List.set_cons_succ])
    refine wpAnyH_take (i := 14) (oi := ({ dst := some 87, op := Op.move (Operand.tmp 8), type := 35, pos := "law.go:156", after := #[{ on := 13, ground := Ground.guard }], guard := some (13, true) } : Oper)) (v := undef) rfl (by kernel_rfl) (by kernel_rfl) (by kernel_rfl) (fun _ _ _ h => h) (Or.inr ⟨by rfl, rfl⟩) (by assumption) ?n1xre15
    (try simp only [Act.put, List.setIfInBounds_toArray, List.set_cons_zero, List.set_cons_succ])
    refine wpAnyH_take (i := 15) (oi := ({ dst := some 88, op := Op.binOp BinOp.neq 35 (Operand.tmp 87) (Operand.const (Value.int IntKind.i64 3)) 35, type := 4, pos := "law.go:156", after := #[{ on := 14, ground := Ground.data }, { on := 13, ground := Ground.guard }], guard := some (13, true) } : Oper)) (v := undef) rfl (by kernel_rfl) (by kernel_rfl) (by kernel_rfl) (fun _ _ _ h => h) (Or.inr ⟨by rfl, rfl⟩) (by assumption) ?n1xre16
    (try simp only [Act.put, List.setIfInBounds_toArray, List.set_cons_zero, List.set_cons_succ])
    refine wpAnyH_take (i := 16) (oi := ({ dst := some 89, op := Op.pick (Operand.tmp 86) (Operand.tmp 88) (Operand.const (Value.bool false)), type := 4, pos := "law.go:156", after := #[{ on := 13, ground := Ground.data }, { on := 15, ground := Ground.data }, { on := 10, ground := Ground.guard }], guard := some (10, false) } : Oper)) (v := ?n1xv17) rfl (by kernel_rfl) (by kernel_rfl) (by kernel_rfl) (fun _ _ _ h => h) (Or.inl ⟨by rfl, ?n1xhy17⟩) (by assumption) ?n1xre17
    case n1xhy17 => (intro w hSw; (try dsimp only at hSw); go_simp; try with_reducible rfl)
    (try simp only [Act.put, List.setIfInBounds_toArray, List.set_cons_zero, List.set_cons_succ])
    refine wpAnyH_take (i := 17) (oi := ({ dst := some 90, op := Op.pick (Operand.tmp 83) (Operand.const (Value.bool true)) (Operand.tmp 89), type := 4, pos := "law.go:156", after := #[{ on := 10, ground := Ground.data }, { on := 16, ground := Ground.data }], guard := none } : Oper)) (v := ?n1xv18) rfl (by kernel_rfl) (by kernel_rfl) (by kernel_rfl) (fun _ _ _ h => h) (Or.inl ⟨by rfl, ?n1xhy18⟩) (by assumption) ?n1xre18
    case n1xhy18 => (intro w hSw; (try dsimp only at hSw); go_simp; try with_reducible rfl)
    (try simp only [Act.put, List.setIfInBounds_toArray, List.set_cons_zero, List.set_cons_succ])
    refine wpAnyH_take (i := 18) (oi := ({ dst := some 91, op := Op.move (Operand.tmp 90), type := 4, pos := "law.go:156", after := #[{ on := 17, ground := Ground.data }, { on := 13, ground := Ground.chain }], guard := none } : Oper)) (v := ?n1xv19) rfl (by kernel_rfl) (by kernel_rfl) (by kernel_rfl) (fun _ _ _ h => h) (Or.inl ⟨by rfl, ?n1xhy19⟩) (by assumption) ?n1xre19
    case n1xhy19 => (intro w hSw; (try dsimp only at hSw); go_simp; try with_reducible rfl)
    (try simp only [Act.put, List.setIfInBounds_toArray, List.set_cons_zero, List.set_cons_succ])
    refine wpAnyH_take (i := 19) (oi := ({ dst := some 92, op := Op.load 34 (Operand.tmp 9), type := 34, pos := "law.go:156", after := #[{ on := 18, ground := Ground.guard }], guard := some (18, false) } : Oper)) (v := ?n1xv20) rfl (by kernel_rfl) (by kernel_rfl) (by kernel_rfl) (fun _ _ _ h => h) (Or.inl ⟨by rfl, ?n1xhy20⟩) (by assumption) ?n1xre20
    case n1xhy20 => (intro w hSw; (try dsimp only at hSw); go_simp; try with_reducible rfl)
    (try simp only [Act.put, List.setIfInBounds_toArray, List.set_cons_zero, List.set_cons_succ])
    refine wpAnyH_take (i := 20) (oi := ({ dst := some 93, op := Op.move (Operand.tmp 11), type := 3, pos := "law.go:156", after := #[{ on := 18, ground := Ground.guard }], guard := some (18, false) } : Oper)) (v := ?n1xv21) rfl (by kernel_rfl) (by kernel_rfl) (by kernel_rfl) (fun _ _ _ h => h) (Or.inl ⟨by rfl, ?n1xhy21⟩) (by assumption) ?n1xre21
    case n1xhy21 => (intro w hSw; (try dsimp only at hSw); go_simp; try with_reducible rfl)
    (try simp only [Act.put, List.setIfInBounds_toArray, List.set_cons_zero, List.set_cons_succ])
    refine wpAnyH_take (i := 21) (oi := ({ dst := some 94, op := Op.convert 3 28 (Operand.tmp 93), type := 28, pos := "law.go:156", after := #[{ on := 20, ground := Ground.data }, { on := 18, ground := Ground.guard }], guard := some (18, false) } : Oper)) (v := ?n1xv22) rfl (by kernel_rfl) (by kernel_rfl) (by kernel_rfl) (fun _ _ _ h => h) (Or.inl ⟨by rfl, ?n1xhy22⟩) (by assumption) ?n1xre22
    case n1xhy22 => (intro w hSw; (try dsimp only at hSw); go_simp; try with_reducible rfl)
    (try simp only [Act.put, List.setIfInBounds_toArray, List.set_cons_zero, List.set_cons_succ])
    refine wpAnyH_ready (rs := [22]) (by kernel_rfl) (by simp) ?_
    refine AllReadyH.cons (o := ({ dst := some 95, op := Op.call { callee := Callee.value (Operand.func 7), args := #[Operand.tmp 94], argTypes := #[28] }, type := 34, pos := "law.go:156", after := #[{ on := 21, ground := Ground.data }, { on := 18, ground := Ground.chain }, { on := 18, ground := Ground.guard }], guard := some (18, false) } : Oper)) rfl (fun K hK => ?_) AllReadyH.nil
    go_simp
    (go_at_call 7; ((with_reducible refine (HNM.out _).mono ?_); rintro e w1 ⟨rfl, hb1⟩; obtain ⟨osE, dE, rfl⟩ := ext_of_below hb1; clear hb1))
    refine hK.out _ _ ?n1xhS23 (fun hHeldN => ?n1xrst23)
    case n1xhS23 => ((try dsimp only); exact KEEP.out _ (by (repeat' (first | (with_reducible exact Below.refl _ _) | (with_reducible assumption) | (with_reducible refine Below.alloc ?_ ?_ _) | (with_reducible refine below_drewN ?_ _) | (with_reducible refine below_drew ?_) | (with_reducible refine below_ext ?_ ?_ _ _) | (with_reducible refine Below.setCell ?_ ?_ _) | (simp; done) | (simp; omega) | omega))))
    clear hHeld hK K
    have hHeld := hHeldN
    clear hHeldN
    refine wpAnyH_ready (rs := [23]) (by kernel_rfl) (by simp) ?_
    refine AllReadyH.cons (o := ({ dst := some 96, op := Op.call { callee := Callee.value (Operand.func 6), args := #[Operand.tmp 92, Operand.tmp 95], argTypes := #[34, 34] }, type := 4, pos := "law.go:156", after := #[{ on := 19, ground := Ground.data }, { on := 22, ground := Ground.data }, { on := 22, ground := Ground.chain }, { on := 18, ground := Ground.guard }], guard := some (18, false) } : Oper)) rfl (fun K hK => ?_) AllReadyH.nil
    go_simp
    (go_at_call 6; ((with_reducible refine (HSM.out _ _ _ _ _).mono ?_); rintro e w1 ⟨rfl, hb1⟩; obtain ⟨osF, dF, rfl⟩ := ext_of_below hb1; clear hb1))
    refine hK.out _ _ ?n1xhS24 (fun hHeldN => ?n1xrst24)
    case n1xhS24 => ((try dsimp only); exact KEEP.out _ (by (repeat' (first | (with_reducible exact Below.refl _ _) | (with_reducible assumption) | (with_reducible refine Below.alloc ?_ ?_ _) | (with_reducible refine below_drewN ?_ _) | (with_reducible refine below_drew ?_) | (with_reducible refine below_ext ?_ ?_ _ _) | (with_reducible refine Below.setCell ?_ ?_ _) | (simp; done) | (simp; omega) | omega))))
    clear hHeld hK K
    have hHeld := hHeldN
    clear hHeldN
    refine wpAnyH_take (i := 24) (oi := ({ dst := some 97, op := Op.unOp UnOp.not 4 (Operand.tmp 96), type := 4, pos := "law.go:156", after := #[{ on := 23, ground := Ground.data }, { on := 18, ground := Ground.guard }], guard := some (18, false) } : Oper)) (v := ?n1xv25) rfl (by kernel_rfl) (by kernel_rfl) (by kernel_rfl) (fun _ _ _ h => h) (Or.inl ⟨by rfl, ?n1xhy25⟩) (by assumption) ?n1xre25
    case n1xhy25 => (intro w hSw; (try dsimp only at hSw); go_simp; try with_reducible rfl)
    (try simp only [Act.put, List.setIfInBounds_toArray, List.set_cons_zero, List.set_cons_succ])
    refine wpAnyH_take (i := 25) (oi := ({ dst := some 98, op := Op.pick (Operand.tmp 91) (Operand.const (Value.bool true)) (Operand.tmp 97), type := 4, pos := "law.go:156", after := #[{ on := 18, ground := Ground.data }, { on := 24, ground := Ground.data }], guard := none } : Oper)) (v := ?n1xv26) rfl (by kernel_rfl) (by kernel_rfl) (by kernel_rfl) (fun _ _ _ h => h) (Or.inl ⟨by rfl, ?n1xhy26⟩) (by assumption) ?n1xre26
    case n1xhy26 => (intro w hSw; (try dsimp only at hSw); go_simp; try with_reducible rfl)
    (try simp only [Act.put, List.setIfInBounds_toArray, List.set_cons_zero, List.set_cons_succ])
    refine wpAnyH_take (i := 26) (oi := ({ dst := some 99, op := Op.move (Operand.tmp 98), type := 4, pos := "law.go:156", after := #[{ on := 25, ground := Ground.data }, { on := 23, ground := Ground.chain }], guard := none } : Oper)) (v := ?n1xv27) rfl (by kernel_rfl) (by kernel_rfl) (by kernel_rfl) (fun _ _ _ h => h) (Or.inl ⟨by rfl, ?n1xhy27⟩) (by assumption) ?n1xre27
    case n1xhy27 => (intro w hSw; (try dsimp only at hSw); go_simp; try with_reducible rfl)
    (try simp only [Act.put, List.setIfInBounds_toArray, List.set_cons_zero, List.set_cons_succ])
    refine wpAnyH_take (i := 27) (oi := ({ dst := some 100, op := Op.fieldAddr 34 (Operand.tmp 3) 0, type := 0, pos := "law.go:156", after := #[{ on := 26, ground := Ground.guard }], guard := some (26, false) } : Oper)) (v := ?n1xv28) rfl (by kernel_rfl) (by kernel_rfl) (by kernel_rfl) (fun _ _ _ h => h) (Or.inl ⟨by rfl, ?n1xhy28⟩) (by assumption) ?n1xre28
    case n1xhy28 => (intro w hSw; (try dsimp only at hSw); go_simp; try with_reducible rfl)
    (try simp only [Act.put, List.setIfInBounds_toArray, List.set_cons_zero, List.set_cons_succ])
    refine wpAnyH_take (i := 28) (oi := ({ dst := some 101, op := Op.load 3 (Operand.tmp 100), type := 3, pos := "law.go:156", after := #[{ on := 27, ground := Ground.data }, { on := 26, ground := Ground.guard }], guard := some (26, false) } : Oper)) (v := ?n1xv29) rfl (by kernel_rfl) (by kernel_rfl) (by kernel_rfl) (fun _ _ _ h => h) (Or.inl ⟨by rfl, ?n1xhy29⟩) (by assumption) ?n1xre29
    case n1xhy29 => (intro w hSw; (try dsimp only at hSw); go_simp; try with_reducible rfl)
    (try simp only [Act.put, List.setIfInBounds_toArray, List.set_cons_zero, List.set_cons_succ])
    refine wpAnyH_take (i := 29) (oi := ({ dst := some 102, op := Op.fieldAddr 34 (Operand.tmp 5) 0, type := 0, pos := "law.go:156", after := #[{ on := 26, ground := Ground.guard }], guard := some (26, false) } : Oper)) (v := ?n1xv30) rfl (by kernel_rfl) (by kernel_rfl) (by kernel_rfl) (fun _ _ _ h => h) (Or.inl ⟨by rfl, ?n1xhy30⟩) (by assumption) ?n1xre30
    case n1xhy30 => (intro w hSw; (try dsimp only at hSw); go_simp; try with_reducible rfl)
    (try simp only [Act.put, List.setIfInBounds_toArray, List.set_cons_zero, List.set_cons_succ])
    refine wpAnyH_take (i := 30) (oi := ({ dst := some 103, op := Op.load 3 (Operand.tmp 102), type := 3, pos := "law.go:156", after := #[{ on := 29, ground := Ground.data }, { on := 26, ground := Ground.guard }], guard := some (26, false) } : Oper)) (v := ?n1xv31) rfl (by kernel_rfl) (by kernel_rfl) (by kernel_rfl) (fun _ _ _ h => h) (Or.inl ⟨by rfl, ?n1xhy31⟩) (by assumption) ?n1xre31
    case n1xhy31 => (intro w hSw; (try dsimp only at hSw); go_simp; try with_reducible rfl)
    (try simp only [Act.put, List.setIfInBounds_toArray, List.set_cons_zero, List.set_cons_succ])
    refine wpAnyH_take (i := 31) (oi := ({ dst := some 104, op := Op.binOp BinOp.neq 3 (Operand.tmp 101) (Operand.tmp 103) 3, type := 4, pos := "law.go:156", after := #[{ on := 28, ground := Ground.data }, { on := 30, ground := Ground.data }, { on := 26, ground := Ground.guard }], guard := some (26, false) } : Oper)) (v := ?n1xv32) rfl (by kernel_rfl) (by kernel_rfl) (by kernel_rfl) (fun _ _ _ h => h) (Or.inl ⟨by rfl, ?n1xhy32⟩) (by assumption) ?n1xre32
    case n1xhy32 => (intro w hSw; (try dsimp only at hSw); go_simp; try with_reducible rfl)
    (try simp only [Act.put, List.setIfInBounds_toArray, List.set_cons_zero, List.set_cons_succ])
    refine wpAnyH_take (i := 32) (oi := ({ dst := some 105, op := Op.pick (Operand.tmp 99) (Operand.const (Value.bool true)) (Operand.tmp 104), type := 4, pos := "law.go:156", after := #[{ on := 26, ground := Ground.data }, { on := 31, ground := Ground.data }], guard := none } : Oper)) (v := ?n1xv33) rfl (by kernel_rfl) (by kernel_rfl) (by kernel_rfl) (fun _ _ _ h => h) (Or.inl ⟨by rfl, ?n1xhy33⟩) (by assumption) ?n1xre33
    case n1xhy33 => (intro w hSw; (try dsimp only at hSw); go_simp; try with_reducible rfl)
    (try simp only [Act.put, List.setIfInBounds_toArray, List.set_cons_zero, List.set_cons_succ])
    refine wpAnyH_done (by kernel_rfl) ?_ _
    clear hHeld
    obtain ⟨W2, hW2⟩ : ∃ W2, W2 = ext (ext W.drew osE dE) osF dF := ⟨_, rfl⟩
    have hb2 : Below W.heap.size W W2 := by rw [hW2]; (repeat' (first | (with_reducible exact Below.refl _ _) | (with_reducible assumption) | (with_reducible refine Below.alloc ?_ ?_ _) | (with_reducible refine below_drewN ?_ _) | (with_reducible refine below_drew ?_) | (with_reducible refine below_ext ?_ ?_ _ _) | (with_reducible refine Below.setCell ?_ ?_ _) | (simp; done) | (simp; omega) | omega))
    rw [← hW2]
    have zl := (hb2.cell (p := ⟨bl, 0, none⟩) hlW).trans yl
    have zs := (hb2.cell (p := ⟨bs, 0, none⟩) hsW).trans ys
    clear hW2
    go_wp2
    go_returns
    exact ⟨rfl, hbW.trans (hb2.mono hbW.size)⟩
  · have h3 : (0 : Int) < (nt : Int) := by omega
    have h6 : IntKind.u64.wrap 1 = 1 := wrapN 1 (by omega)
    have HNM := Lib.hid (show ∀ w', Calls Tryz.prog 7 #[.int .u64 1] w' fun e w'' => e = .returned (NumC 1) ∧ Below w'.heap.size w' w'' from HNM.out)
    have HSM := Lib.hid (show ∀ (pl : Option Addr) (cl : Nat) (pn : Option Addr) (cn : Nat) (W : World), Calls Tryz.prog 6 #[NC (false, 1, 0) pl cl pn cn, NumC 1] W fun e w' => e = .returned (.bool true) ∧ Below W.heap.size W w' from HSM.out)
    go_enter Tryz.func3, Tryz.ntmps3
    go_wp2_with (first
      | (go_at_call 4; ((with_reducible refine (HK.out _ (by (repeat' (first | (with_reducible exact Below.refl _ _) | (with_reducible assumption) | (with_reducible refine Below.alloc ?_ ?_ _) | (with_reducible refine below_drewN ?_ _) | (with_reducible refine below_drew ?_) | (with_reducible refine below_ext ?_ ?_ _ _) | (with_reducible refine Below.setCell ?_ ?_ _) | (simp; done) | (simp; omega) | omega)))).mono ?_); rintro e w1 ⟨rfl, hb1⟩; obtain ⟨osK, dK, rfl⟩ := ext_of_below hb1; clear hb1))
      | (go_at_call 5; (with_reducible refine (HDA.out _ (by (repeat' (first | (with_reducible exact Below.refl _ _) | (with_reducible assumption) | (with_reducible refine Below.alloc ?_ ?_ _) | (with_reducible refine below_drewN ?_ _) | (with_reducible refine below_drew ?_) | (with_reducible refine below_ext ?_ ?_ _ _) | (with_reducible refine Below.setCell ?_ ?_ _) | (simp; done) | (simp; omega) | omega)))).mono ?_); rintro e w1 ⟨x, rfl, hb1, hx⟩; obtain ⟨qlA, dlA, qnA, dnA, rfl⟩ := (show ∃ pl cl pn cn, x = ZC pl cl pn cn from hx); obtain ⟨osA, dA, rfl⟩ := ext_of_below hb1; clear hb1 hx)
      | (go_at_call 5; (with_reducible refine (HDB.out _ (by (repeat' (first | (with_reducible exact Below.refl _ _) | (with_reducible assumption) | (with_reducible refine Below.alloc ?_ ?_ _) | (with_reducible refine below_drewN ?_ _) | (with_reducible refine below_drew ?_) | (with_reducible refine below_ext ?_ ?_ _ _) | (with_reducible refine Below.setCell ?_ ?_ _) | (simp; done) | (simp; omega) | omega)))).mono ?_); rintro e w1 ⟨x, rfl, hb1, hx⟩; obtain ⟨qlB, dlB, qnB, dnB, rfl⟩ := (show ∃ pl cl pn cn, x = ZC pl cl pn cn from hx); obtain ⟨osB, dB, rfl⟩ := ext_of_below hb1; clear hb1 hx)
      | (go_at_call 5; (with_reducible refine (HDC.out _ (by (repeat' (first | (with_reducible exact Below.refl _ _) | (with_reducible assumption) | (with_reducible refine Below.alloc ?_ ?_ _) | (with_reducible refine below_drewN ?_ _) | (with_reducible refine below_drew ?_) | (with_reducible refine below_ext ?_ ?_ _ _) | (with_reducible refine Below.setCell ?_ ?_ _) | (simp; done) | (simp; omega) | omega)))).mono ?_); rintro e w1 ⟨x, rfl, hb1, hx⟩; obtain ⟨qlC, dlC, qnC, dnC, rfl⟩ := (show ∃ pl cl pn cn, x = ZC pl cl pn cn from hx); obtain ⟨osC, dC, rfl⟩ := ext_of_below hb1; clear hb1 hx)
      | (go_at_call 5; (with_reducible refine (HDD.out _ (by (repeat' (first | (with_reducible exact Below.refl _ _) | (with_reducible assumption) | (with_reducible refine Below.alloc ?_ ?_ _) | (with_reducible refine below_drewN ?_ _) | (with_reducible refine below_drew ?_) | (with_reducible refine below_ext ?_ ?_ _ _) | (with_reducible refine Below.setCell ?_ ?_ _) | (simp; done) | (simp; omega) | omega)))).mono ?_); rintro e w1 ⟨x, rfl, hb1, hx⟩; obtain ⟨qlD, dlD, qnD, dnD, rfl⟩ := (show ∃ pl cl pn cn, x = NC (false, 1, 0) pl cl pn cn from hx); obtain ⟨osD, dD, rfl⟩ := ext_of_below hb1; clear hb1 hx))
    obtain ⟨bl, hbl⟩ : ∃ b, b = w.heap.size + 1 + osK.size + osA.size := ⟨_, rfl⟩
    rw [← hbl]
    obtain ⟨bh, hbh⟩ : ∃ b, b = bl + 1 + osB.size := ⟨_, rfl⟩
    rw [← hbh]
    obtain ⟨bs, hbs⟩ : ∃ b, b = bh + 1 + osC.size := ⟨_, rfl⟩
    rw [← hbs]
    obtain ⟨bn, hbn⟩ : ∃ b, b = bs + 1 + osD.size := ⟨_, rfl⟩
    rw [← hbn]
    refine cutW (fun W => Below w.heap.size w W ∧ bl < W.heap.size ∧ bh < W.heap.size ∧ bs < W.heap.size ∧ bn < W.heap.size ∧ W.cell? ⟨bn, 0, none⟩ = some (.int .i64 2) ∧ W.cell? ⟨bn, 1, none⟩ = some (.bool false) ∧ W.cell? ⟨bn, 2, none⟩ = some (.bool false) ∧ W.cell? ⟨bn, 3, none⟩ = some (.int .u64 (hi 1 : Int)) ∧ W.cell? ⟨bn, 4, none⟩ = some (.int .u64 (lo 1 : Int)) ∧ W.cell? ⟨bn, 5, none⟩ = some (.int .i64 0) ∧ W.cell? ⟨bn, 6, none⟩ = some (.string ⟨#[]⟩) ∧ W.cell? ⟨bn, 7, none⟩ = some (.int .i64 0) ∧ W.cell? ⟨bn, 8, none⟩ = some (.slice qlD 0 dlD) ∧ W.cell? ⟨bn, 9, none⟩ = some (.slice qnD 0 dnD) ∧ W.cell? ⟨bl, 0, none⟩ = some (.int .i64 0) ∧ W.cell? ⟨bh, 0, none⟩ = some (.int .i64 0) ∧ W.cell? ⟨bs, 0, none⟩ = some (.int .i64 0)) ?_ ?_
    · refine ⟨by (repeat' (first | (with_reducible exact Below.refl _ _) | (with_reducible assumption) | (with_reducible refine Below.alloc ?_ ?_ _) | (with_reducible refine below_drewN ?_ _) | (with_reducible refine below_drew ?_) | (with_reducible refine below_ext ?_ ?_ _ _) | (with_reducible refine Below.setCell ?_ ?_ _) | (simp; done) | (simp; omega) | omega)), ?_⟩
      subst hbl hbh hbs hbn
      go_simp
    intro W ⟨hbW, hlW, hhW, hsW, hnW, y0, y1, y2, y3, y4, y5, y6, y7, y8, y9, yl, yh, ys⟩
    have KEEP := Lib.hid (show ∀ w', Below W.heap.size W w' → w'.cell? ⟨bn, 0, none⟩ = some (.int .i64 2) ∧ w'.cell? ⟨bn, 1, none⟩ = some (.bool false) ∧ w'.cell? ⟨bn, 2, none⟩ = some (.bool false) ∧ w'.cell? ⟨bn, 3, none⟩ = some (.int .u64 (hi 1 : Int)) ∧ w'.cell? ⟨bn, 4, none⟩ = some (.int .u64 (lo 1 : Int)) ∧ w'.cell? ⟨bn, 5, none⟩ = some (.int .i64 0) ∧ w'.cell? ⟨bn, 6, none⟩ = some (.string ⟨#[]⟩) ∧ w'.cell? ⟨bn, 7, none⟩ = some (.int .i64 0) ∧ w'.cell? ⟨bn, 8, none⟩ = some (.slice qlD 0 dlD) ∧ w'.cell? ⟨bn, 9, none⟩ = some (.slice qnD 0 dnD) ∧ w'.cell? ⟨bl, 0, none⟩ = some (.int .i64 0) ∧ w'.cell? ⟨bh, 0, none⟩ = some (.int .i64 0) from fun w' hb => ⟨(hb.cell (p := ⟨bn, 0, none⟩) hnW).trans y0, (hb.cell (p := ⟨bn, 1, none⟩) hnW).trans y1, (hb.cell (p := ⟨bn, 2, none⟩) hnW).trans y2, (hb.cell (p := ⟨bn, 3, none⟩) hnW).trans y3, (hb.cell (p := ⟨bn, 4, none⟩) hnW).trans y4, (hb.cell (p := ⟨bn, 5, none⟩) hnW).trans y5, (hb.cell (p := ⟨bn, 6, none⟩) hnW).trans y6, (hb.cell (p := ⟨bn, 7, none⟩) hnW).trans y7, (hb.cell (p := ⟨bn, 8, none⟩) hnW).trans y8, (hb.cell (p := ⟨bn, 9, none⟩) hnW).trans y9, (hb.cell (p := ⟨bl, 0, none⟩) hlW).trans yl, (hb.cell (p := ⟨bh, 0, none⟩) hhW).trans yh⟩)
    clear hbl hbh hbs hbn
    refine wp_region_held_drew (S := fun w' => w'.cell? ⟨bn, 0, none⟩ = some (.int .i64 2) ∧ w'.cell? ⟨bn, 1, none⟩ = some (.bool false) ∧ w'.cell? ⟨bn, 2, none⟩ = some (.bool false) ∧ w'.cell? ⟨bn, 3, none⟩ = some (.int .u64 (hi 1 : Int)) ∧ w'.cell? ⟨bn, 4, none⟩ = some (.int .u64 (lo 1 : Int)) ∧ w'.cell? ⟨bn, 5, none⟩ = some (.int .i64 0) ∧ w'.cell? ⟨bn, 6, none⟩ = some (.string ⟨#[]⟩) ∧ w'.cell? ⟨bn, 7, none⟩ = some (.int .i64 0) ∧ w'.cell? ⟨bn, 8, none⟩ = some (.slice qlD 0 dlD) ∧ w'.cell? ⟨bn, 9, none⟩ = some (.slice qnD 0 dnD) ∧ w'.cell? ⟨bl, 0, none⟩ = some (.int .i64 0) ∧ w'.cell? ⟨bh, 0, none⟩ = some (.int .i64 0)) (by kernel_rfl) ?n2xhSa (fun hHeld => ?n2xresta)
    case n2xhSa => ((try dsimp only); exact KEEP.out _ (by (repeat' (first | (with_reducible exact Below.refl _ _) | (with_reducible assumption) | (with_reducible refine Below.alloc ?_ ?_ _) | (with_reducible refine below_drewN ?_ _) | (with_reducible refine below_drew ?_) | (with_reducible refine below_ext ?_ ?_ _ _) | (with_reducible refine Below.setCell ?_ ?_ _) | (simp; done) | (simp; omega) | omega))))
    refine wpAnyH_take (i := 0) (oi := ({ dst := some 73, op := Op.move (Operand.tmp 4), type := 35, pos := "law.go:156", after := #[], guard := none } : Oper)) (v := ?n2xv1) rfl (by kernel_rfl) (by kernel_rfl) (by kernel_rfl) (fun _ _ _ h => h) (Or.inl ⟨by rfl, ?n2xhy1⟩) (by assumption) ?n2xre1
    case n2xhy1 => (intro w hSw; (try dsimp only at hSw); go_simp; try with_reducible rfl)
    (try simp only [Act.put, List.setIfInBounds_toArray, List.set_cons_zero, List.set_cons_succ])
    refine wpAnyH_take (i := 1) (oi := ({ dst := some 74, op := Op.binOp BinOp.neq 35 (Operand.tmp 73) (Operand.const (Value.int IntKind.i64 0)) 35, type := 4, pos := "law.go:156", after := #[{ on := 0, ground := Ground.data }], guard := none } : Oper)) (v := ?n2xv2) rfl (by kernel_rfl) (by kernel_rfl) (by kernel_rfl) (fun _ _ _ h => h) (Or.inl ⟨by rfl, ?n2xhy2⟩) (by assumption) ?n2xre2
    case n2xhy2 => (intro w hSw; (try dsimp only at hSw); go_simp; try with_reducible rfl)
    (try simp only [Act.put, List.setIfInBounds_toArray, List.set_cons_zero, List.set_cons_succ])
    refine wpAnyH_take (i := 2) (oi := ({ dst := some 75, op := Op.move (Operand.tmp 74), type := 4, pos := "law.go:156", after := #[{ on := 1, ground := Ground.data }], guard := none } : Oper)) (v := ?n2xv3) rfl (by kernel_rfl) (by kernel_rfl) (by kernel_rfl) (fun _ _ _ h => h) (Or.inl ⟨by rfl, ?n2xhy3⟩) (by assumption) ?n2xre3
    case n2xhy3 => (intro w hSw; (try dsimp only at hSw); go_simp; try with_reducible rfl)
    (try simp only [Act.put, List.setIfInBounds_toArray, List.set_cons_zero, List.set_cons_succ])
    refine wpAnyH_take (i := 3) (oi := ({ dst := some 76, op := Op.move (Operand.tmp 6), type := 35, pos := "law.go:156", after := #[{ on := 2, ground := Ground.guard }], guard := some (2, false) } : Oper)) (v := ?n2xv4) rfl (by kernel_rfl) (by kernel_rfl) (by kernel_rfl) (fun _ _ _ h => h) (Or.inl ⟨by rfl, ?n2xhy4⟩) (by assumption) ?n2xre4
    case n2xhy4 => (intro w hSw; (try dsimp only at hSw); go_simp; try with_reducible rfl)
    (try simp only [Act.put, List.setIfInBounds_toArray, List.set_cons_zero, List.set_cons_succ])
    refine wpAnyH_take (i := 4) (oi := ({ dst := some 77, op := Op.binOp BinOp.neq 35 (Operand.tmp 76) (Operand.const (Value.int IntKind.i64 0)) 35, type := 4, pos := "law.go:156", after := #[{ on := 3, ground := Ground.data }, { on := 2, ground := Ground.guard }], guard := some (2, false) } : Oper)) (v := ?n2xv5) rfl (by kernel_rfl) (by kernel_rfl) (by kernel_rfl) (fun _ _ _ h => h) (Or.inl ⟨by rfl, ?n2xhy5⟩) (by assumption) ?n2xre5
    case n2xhy5 => (intro w hSw; (try dsimp only at hSw); go_simp; try with_reducible rfl)
    (try simp only [Act.put, List.setIfInBounds_toArray, List.set_cons_zero, List.set_cons_succ])
    refine wpAnyH_take (i := 5) (oi := ({ dst := some 78, op := Op.pick (Operand.tmp 75) (Operand.const (Value.bool true)) (Operand.tmp 77), type := 4, pos := "law.go:156", after := #[{ on := 2, ground := Ground.data }, { on := 4, ground := Ground.data }], guard := none } : Oper)) (v := ?n2xv6) rfl (by kernel_rfl) (by kernel_rfl) (by kernel_rfl) (fun _ _ _ h => h) (Or.inl ⟨by rfl, ?n2xhy6⟩) (by assumption) ?n2xre6
    case n2xhy6 => (intro w hSw; (try dsimp only at hSw); go_simp; try with_reducible rfl)
    (try simp only [Act.put, List.setIfInBounds_toArray, List.set_cons_zero, List.set_cons_succ])
    refine wpAnyH_take (i := 6) (oi := ({ dst := some 79, op := Op.move (Operand.tmp 78), type := 4, pos := "law.go:156", after := #[{ on := 5, ground := Ground.data }, { on := 2, ground := Ground.chain }], guard := none } : Oper)) (v := ?n2xv7) rfl (by kernel_rfl) (by kernel_rfl) (by kernel_rfl) (fun _ _ _ h => h) (Or.inl ⟨by rfl, ?n2xhy7⟩) (by assumption) ?n2xre7
    case n2xhy7 => (intro w hSw; (try dsimp only at hSw); go_simp; try with_reducible rfl)
    (try simp only [Act.put, List.setIfInBounds_toArray, List.set_cons_zero, List.set_cons_succ])
    refine wpAnyH_take (i := 7) (oi := ({ dst := some 80, op := Op.move (Operand.tmp 10), type := 35, pos := "law.go:156", after := #[{ on := 6, ground := Ground.guard }], guard := some (6, false) } : Oper)) (v := ?n2xv8) rfl (by kernel_rfl) (by kernel_rfl) (by kernel_rfl) (fun _ _ _ h => h) (Or.inl ⟨by rfl, ?n2xhy8⟩) (by assumption) ?n2xre8
    case n2xhy8 => (intro w hSw; (try dsimp only at hSw); go_simp; try with_reducible rfl)
    (try simp only [Act.put, List.setIfInBounds_toArray, List.set_cons_zero, List.set_cons_succ])
    refine wpAnyH_take (i := 8) (oi := ({ dst := some 81, op := Op.binOp BinOp.neq 35 (Operand.tmp 80) (Operand.const (Value.int IntKind.i64 0)) 35, type := 4, pos := "law.go:156", after := #[{ on := 7, ground := Ground.data }, { on := 6, ground := Ground.guard }], guard := some (6, false) } : Oper)) (v := ?n2xv9) rfl (by kernel_rfl) (by kernel_rfl) (by kernel_rfl) (fun _ _ _ h => h) (Or.inl ⟨by rfl, ?n2xhy9⟩) (by assumption) ?n2xre9
    case n2xhy9 => (intro w hSw; (try dsimp only at hSw); go_simp; try with_reducible rfl)
    (try simp only [Act.put, List.setIfInBounds_toArray, List.set_cons_zero, List.set_cons_succ])
    refine wpAnyH_take (i := 9) (oi := ({ dst := some 82, op := Op.pick (Operand.tmp 79) (Operand.const (Value.bool true)) (Operand.tmp 81), type := 4, pos := "law.go:156", after := #[{ on := 6, ground := Ground.data }, { on := 8, ground := Ground.data }], guard := none } : Oper)) (v := ?n2xv10) rfl (by kernel_rfl) (by kernel_rfl) (by kernel_rfl) (fun _ _ _ h => h) (Or.inl ⟨by rfl, ?n2xhy10⟩) (by assumption) ?n2xre10
    case n2xhy10 => (intro w hSw; (try dsimp only at hSw); go_simp; try with_reducible rfl)
    (try simp only [Act.put, List.setIfInBounds_toArray, List.set_cons_zero, List.set_cons_succ])
    refine wpAnyH_take (i := 10) (oi := ({ dst := some 83, op := Op.move (Operand.tmp 82), type := 4, pos := "law.go:156", after := #[{ on := 9, ground := Ground.data }, { on := 6, ground := Ground.chain }], guard := none } : Oper)) (v := ?n2xv11) rfl (by kernel_rfl) (by kernel_rfl) (by kernel_rfl) (fun _ _ _ h => h) (Or.inl ⟨by rfl, ?n2xhy11⟩) (by assumption) ?n2xre11
    case n2xhy11 => (intro w hSw; (try dsimp only at hSw); go_simp; try with_reducible rfl)
    (try simp only [Act.put, List.setIfInBounds_toArray, List.set_cons_zero, List.set_cons_succ])
    refine wpAnyH_take (i := 11) (oi := ({ dst := some 84, op := Op.move (Operand.tmp 8), type := 35, pos := "law.go:156", after := #[{ on := 10, ground := Ground.guard }], guard := some (10, false) } : Oper)) (v := ?n2xv12) rfl (by kernel_rfl) (by kernel_rfl) (by kernel_rfl) (fun _ _ _ h => h) (Or.inl ⟨by rfl, ?n2xhy12⟩) (by assumption) ?n2xre12
    case n2xhy12 => (intro w hSw; (try dsimp only at hSw); go_simp; try with_reducible rfl)
    (try simp only [Act.put, List.setIfInBounds_toArray, List.set_cons_zero, List.set_cons_succ])
    refine wpAnyH_take (i := 12) (oi := ({ dst := some 85, op := Op.binOp BinOp.neq 35 (Operand.tmp 84) (Operand.const (Value.int IntKind.i64 0)) 35, type := 4, pos := "law.go:156", after := #[{ on := 11, ground := Ground.data }, { on := 10, ground := Ground.guard }], guard := some (10, false) } : Oper)) (v := ?n2xv13) rfl (by kernel_rfl) (by kernel_rfl) (by kernel_rfl) (fun _ _ _ h => h) (Or.inl ⟨by rfl, ?n2xhy13⟩) (by assumption) ?n2xre13
    case n2xhy13 => (intro w hSw; (try dsimp only at hSw); go_simp; try with_reducible rfl)
    (try simp only [Act.put, List.setIfInBounds_toArray, List.set_cons_zero, List.set_cons_succ])
    refine wpAnyH_take (i := 13) (oi := ({ dst := some 86, op := Op.move (Operand.tmp 85), type := 4, pos := "law.go:156", after := #[{ on := 12, ground := Ground.data }, { on := 10, ground := Ground.chain }, { on := 10, ground := Ground.guard }], guard := some (10, false) } : Oper)) (v := ?n2xv14) rfl (by kernel_rfl) (by kernel_rfl) (by kernel_rfl) (fun _ _ _ h => h) (Or.inl ⟨by rfl, ?n2xhy14⟩) (by assumption) ?n2xre14
    case n2xhy14 => (intro w hSw; (try dsimp only at hSw); go_simp; try with_reducible rfl)
    (try simp only [Act.put, List.setIfInBounds_toArray, List.set_cons_zero, List.set_cons_succ])
    refine wpAnyH_take (i := 14) (oi := ({ dst := some 87, op := Op.move (Operand.tmp 8), type := 35, pos := "law.go:156", after := #[{ on := 13, ground := Ground.guard }], guard := some (13, true) } : Oper)) (v := undef) rfl (by kernel_rfl) (by kernel_rfl) (by kernel_rfl) (fun _ _ _ h => h) (Or.inr ⟨by rfl, rfl⟩) (by assumption) ?n2xre15
    (try simp only [Act.put, List.setIfInBounds_toArray, List.set_cons_zero, List.set_cons_succ])
    refine wpAnyH_take (i := 15) (oi := ({ dst := some 88, op := Op.binOp BinOp.neq 35 (Operand.tmp 87) (Operand.const (Value.int IntKind.i64 3)) 35, type := 4, pos := "law.go:156", after := #[{ on := 14, ground := Ground.data }, { on := 13, ground := Ground.guard }], guard := some (13, true) } : Oper)) (v := undef) rfl (by kernel_rfl) (by kernel_rfl) (by kernel_rfl) (fun _ _ _ h => h) (Or.inr ⟨by rfl, rfl⟩) (by assumption) ?n2xre16
    (try simp only [Act.put, List.setIfInBounds_toArray, List.set_cons_zero, List.set_cons_succ])
    refine wpAnyH_take (i := 16) (oi := ({ dst := some 89, op := Op.pick (Operand.tmp 86) (Operand.tmp 88) (Operand.const (Value.bool false)), type := 4, pos := "law.go:156", after := #[{ on := 13, ground := Ground.data }, { on := 15, ground := Ground.data }, { on := 10, ground := Ground.guard }], guard := some (10, false) } : Oper)) (v := ?n2xv17) rfl (by kernel_rfl) (by kernel_rfl) (by kernel_rfl) (fun _ _ _ h => h) (Or.inl ⟨by rfl, ?n2xhy17⟩) (by assumption) ?n2xre17
    case n2xhy17 => (intro w hSw; (try dsimp only at hSw); go_simp; try with_reducible rfl)
    (try simp only [Act.put, List.setIfInBounds_toArray, List.set_cons_zero, List.set_cons_succ])
    refine wpAnyH_take (i := 17) (oi := ({ dst := some 90, op := Op.pick (Operand.tmp 83) (Operand.const (Value.bool true)) (Operand.tmp 89), type := 4, pos := "law.go:156", after := #[{ on := 10, ground := Ground.data }, { on := 16, ground := Ground.data }], guard := none } : Oper)) (v := ?n2xv18) rfl (by kernel_rfl) (by kernel_rfl) (by kernel_rfl) (fun _ _ _ h => h) (Or.inl ⟨by rfl, ?n2xhy18⟩) (by assumption) ?n2xre18
    case n2xhy18 => (intro w hSw; (try dsimp only at hSw); go_simp; try with_reducible rfl)
    (try simp only [Act.put, List.setIfInBounds_toArray, List.set_cons_zero, List.set_cons_succ])
    refine wpAnyH_take (i := 18) (oi := ({ dst := some 91, op := Op.move (Operand.tmp 90), type := 4, pos := "law.go:156", after := #[{ on := 17, ground := Ground.data }, { on := 13, ground := Ground.chain }], guard := none } : Oper)) (v := ?n2xv19) rfl (by kernel_rfl) (by kernel_rfl) (by kernel_rfl) (fun _ _ _ h => h) (Or.inl ⟨by rfl, ?n2xhy19⟩) (by assumption) ?n2xre19
    case n2xhy19 => (intro w hSw; (try dsimp only at hSw); go_simp; try with_reducible rfl)
    (try simp only [Act.put, List.setIfInBounds_toArray, List.set_cons_zero, List.set_cons_succ])
    refine wpAnyH_take (i := 19) (oi := ({ dst := some 92, op := Op.load 34 (Operand.tmp 9), type := 34, pos := "law.go:156", after := #[{ on := 18, ground := Ground.guard }], guard := some (18, false) } : Oper)) (v := ?n2xv20) rfl (by kernel_rfl) (by kernel_rfl) (by kernel_rfl) (fun _ _ _ h => h) (Or.inl ⟨by rfl, ?n2xhy20⟩) (by assumption) ?n2xre20
    case n2xhy20 => (intro w hSw; (try dsimp only at hSw); go_simp; try with_reducible rfl)
    (try simp only [Act.put, List.setIfInBounds_toArray, List.set_cons_zero, List.set_cons_succ])
    refine wpAnyH_take (i := 20) (oi := ({ dst := some 93, op := Op.move (Operand.tmp 11), type := 3, pos := "law.go:156", after := #[{ on := 18, ground := Ground.guard }], guard := some (18, false) } : Oper)) (v := ?n2xv21) rfl (by kernel_rfl) (by kernel_rfl) (by kernel_rfl) (fun _ _ _ h => h) (Or.inl ⟨by rfl, ?n2xhy21⟩) (by assumption) ?n2xre21
    case n2xhy21 => (intro w hSw; (try dsimp only at hSw); go_simp; try with_reducible rfl)
    (try simp only [Act.put, List.setIfInBounds_toArray, List.set_cons_zero, List.set_cons_succ])
    refine wpAnyH_take (i := 21) (oi := ({ dst := some 94, op := Op.convert 3 28 (Operand.tmp 93), type := 28, pos := "law.go:156", after := #[{ on := 20, ground := Ground.data }, { on := 18, ground := Ground.guard }], guard := some (18, false) } : Oper)) (v := ?n2xv22) rfl (by kernel_rfl) (by kernel_rfl) (by kernel_rfl) (fun _ _ _ h => h) (Or.inl ⟨by rfl, ?n2xhy22⟩) (by assumption) ?n2xre22
    case n2xhy22 => (intro w hSw; (try dsimp only at hSw); go_simp; try with_reducible rfl)
    (try simp only [Act.put, List.setIfInBounds_toArray, List.set_cons_zero, List.set_cons_succ])
    refine wpAnyH_ready (rs := [22]) (by kernel_rfl) (by simp) ?_
    refine AllReadyH.cons (o := ({ dst := some 95, op := Op.call { callee := Callee.value (Operand.func 7), args := #[Operand.tmp 94], argTypes := #[28] }, type := 34, pos := "law.go:156", after := #[{ on := 21, ground := Ground.data }, { on := 18, ground := Ground.chain }, { on := 18, ground := Ground.guard }], guard := some (18, false) } : Oper)) rfl (fun K hK => ?_) AllReadyH.nil
    go_simp
    (go_at_call 7; ((with_reducible refine (HNM.out _).mono ?_); rintro e w1 ⟨rfl, hb1⟩; obtain ⟨osE, dE, rfl⟩ := ext_of_below hb1; clear hb1))
    refine hK.out _ _ ?n2xhS23 (fun hHeldN => ?n2xrst23)
    case n2xhS23 => ((try dsimp only); exact KEEP.out _ (by (repeat' (first | (with_reducible exact Below.refl _ _) | (with_reducible assumption) | (with_reducible refine Below.alloc ?_ ?_ _) | (with_reducible refine below_drewN ?_ _) | (with_reducible refine below_drew ?_) | (with_reducible refine below_ext ?_ ?_ _ _) | (with_reducible refine Below.setCell ?_ ?_ _) | (simp; done) | (simp; omega) | omega))))
    clear hHeld hK K
    have hHeld := hHeldN
    clear hHeldN
    refine wpAnyH_ready (rs := [23]) (by kernel_rfl) (by simp) ?_
    refine AllReadyH.cons (o := ({ dst := some 96, op := Op.call { callee := Callee.value (Operand.func 6), args := #[Operand.tmp 92, Operand.tmp 95], argTypes := #[34, 34] }, type := 4, pos := "law.go:156", after := #[{ on := 19, ground := Ground.data }, { on := 22, ground := Ground.data }, { on := 22, ground := Ground.chain }, { on := 18, ground := Ground.guard }], guard := some (18, false) } : Oper)) rfl (fun K hK => ?_) AllReadyH.nil
    go_simp
    (go_at_call 6; ((with_reducible refine (HSM.out _ _ _ _ _).mono ?_); rintro e w1 ⟨rfl, hb1⟩; obtain ⟨osF, dF, rfl⟩ := ext_of_below hb1; clear hb1))
    refine hK.out _ _ ?n2xhS24 (fun hHeldN => ?n2xrst24)
    case n2xhS24 => ((try dsimp only); exact KEEP.out _ (by (repeat' (first | (with_reducible exact Below.refl _ _) | (with_reducible assumption) | (with_reducible refine Below.alloc ?_ ?_ _) | (with_reducible refine below_drewN ?_ _) | (with_reducible refine below_drew ?_) | (with_reducible refine below_ext ?_ ?_ _ _) | (with_reducible refine Below.setCell ?_ ?_ _) | (simp; done) | (simp; omega) | omega))))
    clear hHeld hK K
    have hHeld := hHeldN
    clear hHeldN
    refine wpAnyH_take (i := 24) (oi := ({ dst := some 97, op := Op.unOp UnOp.not 4 (Operand.tmp 96), type := 4, pos := "law.go:156", after := #[{ on := 23, ground := Ground.data }, { on := 18, ground := Ground.guard }], guard := some (18, false) } : Oper)) (v := ?n2xv25) rfl (by kernel_rfl) (by kernel_rfl) (by kernel_rfl) (fun _ _ _ h => h) (Or.inl ⟨by rfl, ?n2xhy25⟩) (by assumption) ?n2xre25
    case n2xhy25 => (intro w hSw; (try dsimp only at hSw); go_simp; try with_reducible rfl)
    (try simp only [Act.put, List.setIfInBounds_toArray, List.set_cons_zero, List.set_cons_succ])
    refine wpAnyH_take (i := 25) (oi := ({ dst := some 98, op := Op.pick (Operand.tmp 91) (Operand.const (Value.bool true)) (Operand.tmp 97), type := 4, pos := "law.go:156", after := #[{ on := 18, ground := Ground.data }, { on := 24, ground := Ground.data }], guard := none } : Oper)) (v := ?n2xv26) rfl (by kernel_rfl) (by kernel_rfl) (by kernel_rfl) (fun _ _ _ h => h) (Or.inl ⟨by rfl, ?n2xhy26⟩) (by assumption) ?n2xre26
    case n2xhy26 => (intro w hSw; (try dsimp only at hSw); go_simp; try with_reducible rfl)
    (try simp only [Act.put, List.setIfInBounds_toArray, List.set_cons_zero, List.set_cons_succ])
    refine wpAnyH_take (i := 26) (oi := ({ dst := some 99, op := Op.move (Operand.tmp 98), type := 4, pos := "law.go:156", after := #[{ on := 25, ground := Ground.data }, { on := 23, ground := Ground.chain }], guard := none } : Oper)) (v := ?n2xv27) rfl (by kernel_rfl) (by kernel_rfl) (by kernel_rfl) (fun _ _ _ h => h) (Or.inl ⟨by rfl, ?n2xhy27⟩) (by assumption) ?n2xre27
    case n2xhy27 => (intro w hSw; (try dsimp only at hSw); go_simp; try with_reducible rfl)
    (try simp only [Act.put, List.setIfInBounds_toArray, List.set_cons_zero, List.set_cons_succ])
    refine wpAnyH_take (i := 27) (oi := ({ dst := some 100, op := Op.fieldAddr 34 (Operand.tmp 3) 0, type := 0, pos := "law.go:156", after := #[{ on := 26, ground := Ground.guard }], guard := some (26, false) } : Oper)) (v := ?n2xv28) rfl (by kernel_rfl) (by kernel_rfl) (by kernel_rfl) (fun _ _ _ h => h) (Or.inl ⟨by rfl, ?n2xhy28⟩) (by assumption) ?n2xre28
    case n2xhy28 => (intro w hSw; (try dsimp only at hSw); go_simp; try with_reducible rfl)
    (try simp only [Act.put, List.setIfInBounds_toArray, List.set_cons_zero, List.set_cons_succ])
    refine wpAnyH_take (i := 28) (oi := ({ dst := some 101, op := Op.load 3 (Operand.tmp 100), type := 3, pos := "law.go:156", after := #[{ on := 27, ground := Ground.data }, { on := 26, ground := Ground.guard }], guard := some (26, false) } : Oper)) (v := ?n2xv29) rfl (by kernel_rfl) (by kernel_rfl) (by kernel_rfl) (fun _ _ _ h => h) (Or.inl ⟨by rfl, ?n2xhy29⟩) (by assumption) ?n2xre29
    case n2xhy29 => (intro w hSw; (try dsimp only at hSw); go_simp; try with_reducible rfl)
    (try simp only [Act.put, List.setIfInBounds_toArray, List.set_cons_zero, List.set_cons_succ])
    refine wpAnyH_take (i := 29) (oi := ({ dst := some 102, op := Op.fieldAddr 34 (Operand.tmp 5) 0, type := 0, pos := "law.go:156", after := #[{ on := 26, ground := Ground.guard }], guard := some (26, false) } : Oper)) (v := ?n2xv30) rfl (by kernel_rfl) (by kernel_rfl) (by kernel_rfl) (fun _ _ _ h => h) (Or.inl ⟨by rfl, ?n2xhy30⟩) (by assumption) ?n2xre30
    case n2xhy30 => (intro w hSw; (try dsimp only at hSw); go_simp; try with_reducible rfl)
    (try simp only [Act.put, List.setIfInBounds_toArray, List.set_cons_zero, List.set_cons_succ])
    refine wpAnyH_take (i := 30) (oi := ({ dst := some 103, op := Op.load 3 (Operand.tmp 102), type := 3, pos := "law.go:156", after := #[{ on := 29, ground := Ground.data }, { on := 26, ground := Ground.guard }], guard := some (26, false) } : Oper)) (v := ?n2xv31) rfl (by kernel_rfl) (by kernel_rfl) (by kernel_rfl) (fun _ _ _ h => h) (Or.inl ⟨by rfl, ?n2xhy31⟩) (by assumption) ?n2xre31
    case n2xhy31 => (intro w hSw; (try dsimp only at hSw); go_simp; try with_reducible rfl)
    (try simp only [Act.put, List.setIfInBounds_toArray, List.set_cons_zero, List.set_cons_succ])
    refine wpAnyH_take (i := 31) (oi := ({ dst := some 104, op := Op.binOp BinOp.neq 3 (Operand.tmp 101) (Operand.tmp 103) 3, type := 4, pos := "law.go:156", after := #[{ on := 28, ground := Ground.data }, { on := 30, ground := Ground.data }, { on := 26, ground := Ground.guard }], guard := some (26, false) } : Oper)) (v := ?n2xv32) rfl (by kernel_rfl) (by kernel_rfl) (by kernel_rfl) (fun _ _ _ h => h) (Or.inl ⟨by rfl, ?n2xhy32⟩) (by assumption) ?n2xre32
    case n2xhy32 => (intro w hSw; (try dsimp only at hSw); go_simp; try with_reducible rfl)
    (try simp only [Act.put, List.setIfInBounds_toArray, List.set_cons_zero, List.set_cons_succ])
    refine wpAnyH_take (i := 32) (oi := ({ dst := some 105, op := Op.pick (Operand.tmp 99) (Operand.const (Value.bool true)) (Operand.tmp 104), type := 4, pos := "law.go:156", after := #[{ on := 26, ground := Ground.data }, { on := 31, ground := Ground.data }], guard := none } : Oper)) (v := ?n2xv33) rfl (by kernel_rfl) (by kernel_rfl) (by kernel_rfl) (fun _ _ _ h => h) (Or.inl ⟨by rfl, ?n2xhy33⟩) (by assumption) ?n2xre33
    case n2xhy33 => (intro w hSw; (try dsimp only at hSw); go_simp; try with_reducible rfl)
    (try simp only [Act.put, List.setIfInBounds_toArray, List.set_cons_zero, List.set_cons_succ])
    refine wpAnyH_done (by kernel_rfl) ?_ _
    clear hHeld
    obtain ⟨W2, hW2⟩ : ∃ W2, W2 = ext (ext W.drew osE dE) osF dF := ⟨_, rfl⟩
    have hb2 : Below W.heap.size W W2 := by rw [hW2]; (repeat' (first | (with_reducible exact Below.refl _ _) | (with_reducible assumption) | (with_reducible refine Below.alloc ?_ ?_ _) | (with_reducible refine below_drewN ?_ _) | (with_reducible refine below_drew ?_) | (with_reducible refine below_ext ?_ ?_ _ _) | (with_reducible refine Below.setCell ?_ ?_ _) | (simp; done) | (simp; omega) | omega))
    rw [← hW2]
    have zl := (hb2.cell (p := ⟨bl, 0, none⟩) hlW).trans yl
    have zs := (hb2.cell (p := ⟨bs, 0, none⟩) hsW).trans ys
    clear hW2
    go_wp2
    go_returns
    exact ⟨rfl, hbW.trans (hb2.mono hbW.size)⟩
  · have h6 : IntKind.u64.wrap 0 = 0 := wrapN 0 (by omega)
    have HNM := Lib.hid (show ∀ w', Calls Tryz.prog 7 #[.int .u64 0] w' fun e w'' => e = .returned (NumC 0) ∧ Below w'.heap.size w' w'' from HNM.out)
    have HSM := Lib.hid (show ∀ (pl : Option Addr) (cl : Nat) (pn : Option Addr) (cn : Nat) (W : World), Calls Tryz.prog 6 #[NC (false, 0, 0) pl cl pn cn, NumC 0] W fun e w' => e = .returned (.bool true) ∧ Below W.heap.size W w' from HSM.out)
    go_enter Tryz.func3, Tryz.ntmps3
    go_wp2_with (first
      | (go_at_call 4; ((with_reducible refine (HK.out _ (by (repeat' (first | (with_reducible exact Below.refl _ _) | (with_reducible assumption) | (with_reducible refine Below.alloc ?_ ?_ _) | (with_reducible refine below_drewN ?_ _) | (with_reducible refine below_drew ?_) | (with_reducible refine below_ext ?_ ?_ _ _) | (with_reducible refine Below.setCell ?_ ?_ _) | (simp; done) | (simp; omega) | omega)))).mono ?_); rintro e w1 ⟨rfl, hb1⟩; obtain ⟨osK, dK, rfl⟩ := ext_of_below hb1; clear hb1))
      | (go_at_call 5; (with_reducible refine (HDA.out _ (by (repeat' (first | (with_reducible exact Below.refl _ _) | (with_reducible assumption) | (with_reducible refine Below.alloc ?_ ?_ _) | (with_reducible refine below_drewN ?_ _) | (with_reducible refine below_drew ?_) | (with_reducible refine below_ext ?_ ?_ _ _) | (with_reducible refine Below.setCell ?_ ?_ _) | (simp; done) | (simp; omega) | omega)))).mono ?_); rintro e w1 ⟨x, rfl, hb1, hx⟩; obtain ⟨qlA, dlA, qnA, dnA, rfl⟩ := (show ∃ pl cl pn cn, x = ZC pl cl pn cn from hx); obtain ⟨osA, dA, rfl⟩ := ext_of_below hb1; clear hb1 hx)
      | (go_at_call 5; (with_reducible refine (HDB.out _ (by (repeat' (first | (with_reducible exact Below.refl _ _) | (with_reducible assumption) | (with_reducible refine Below.alloc ?_ ?_ _) | (with_reducible refine below_drewN ?_ _) | (with_reducible refine below_drew ?_) | (with_reducible refine below_ext ?_ ?_ _ _) | (with_reducible refine Below.setCell ?_ ?_ _) | (simp; done) | (simp; omega) | omega)))).mono ?_); rintro e w1 ⟨x, rfl, hb1, hx⟩; obtain ⟨qlB, dlB, qnB, dnB, rfl⟩ := (show ∃ pl cl pn cn, x = ZC pl cl pn cn from hx); obtain ⟨osB, dB, rfl⟩ := ext_of_below hb1; clear hb1 hx)
      | (go_at_call 5; (with_reducible refine (HDC.out _ (by (repeat' (first | (with_reducible exact Below.refl _ _) | (with_reducible assumption) | (with_reducible refine Below.alloc ?_ ?_ _) | (with_reducible refine below_drewN ?_ _) | (with_reducible refine below_drew ?_) | (with_reducible refine below_ext ?_ ?_ _ _) | (with_reducible refine Below.setCell ?_ ?_ _) | (simp; done) | (simp; omega) | omega)))).mono ?_); rintro e w1 ⟨x, rfl, hb1, hx⟩; obtain ⟨qlC, dlC, qnC, dnC, rfl⟩ := (show ∃ pl cl pn cn, x = ZC pl cl pn cn from hx); obtain ⟨osC, dC, rfl⟩ := ext_of_below hb1; clear hb1 hx)
      | (go_at_call 5; (with_reducible refine (HDD.out _ (by (repeat' (first | (with_reducible exact Below.refl _ _) | (with_reducible assumption) | (with_reducible refine Below.alloc ?_ ?_ _) | (with_reducible refine below_drewN ?_ _) | (with_reducible refine below_drew ?_) | (with_reducible refine below_ext ?_ ?_ _ _) | (with_reducible refine Below.setCell ?_ ?_ _) | (simp; done) | (simp; omega) | omega)))).mono ?_); rintro e w1 ⟨x, rfl, hb1, hx⟩; obtain ⟨qlD, dlD, qnD, dnD, rfl⟩ := (show ∃ pl cl pn cn, x = NC (false, 0, 0) pl cl pn cn from hx); obtain ⟨osD, dD, rfl⟩ := ext_of_below hb1; clear hb1 hx))
    obtain ⟨bl, hbl⟩ : ∃ b, b = w.heap.size + 1 + osK.size + osA.size := ⟨_, rfl⟩
    rw [← hbl]
    obtain ⟨bh, hbh⟩ : ∃ b, b = bl + 1 + osB.size := ⟨_, rfl⟩
    rw [← hbh]
    obtain ⟨bs, hbs⟩ : ∃ b, b = bh + 1 + osC.size := ⟨_, rfl⟩
    rw [← hbs]
    obtain ⟨bn, hbn⟩ : ∃ b, b = bs + 1 + osD.size := ⟨_, rfl⟩
    rw [← hbn]
    refine cutW (fun W => Below w.heap.size w W ∧ bl < W.heap.size ∧ bh < W.heap.size ∧ bs < W.heap.size ∧ bn < W.heap.size ∧ W.cell? ⟨bn, 0, none⟩ = some (.int .i64 2) ∧ W.cell? ⟨bn, 1, none⟩ = some (.bool false) ∧ W.cell? ⟨bn, 2, none⟩ = some (.bool false) ∧ W.cell? ⟨bn, 3, none⟩ = some (.int .u64 (hi 0 : Int)) ∧ W.cell? ⟨bn, 4, none⟩ = some (.int .u64 (lo 0 : Int)) ∧ W.cell? ⟨bn, 5, none⟩ = some (.int .i64 0) ∧ W.cell? ⟨bn, 6, none⟩ = some (.string ⟨#[]⟩) ∧ W.cell? ⟨bn, 7, none⟩ = some (.int .i64 0) ∧ W.cell? ⟨bn, 8, none⟩ = some (.slice qlD 0 dlD) ∧ W.cell? ⟨bn, 9, none⟩ = some (.slice qnD 0 dnD) ∧ W.cell? ⟨bl, 0, none⟩ = some (.int .i64 0) ∧ W.cell? ⟨bh, 0, none⟩ = some (.int .i64 0) ∧ W.cell? ⟨bs, 0, none⟩ = some (.int .i64 0)) ?_ ?_
    · refine ⟨by (repeat' (first | (with_reducible exact Below.refl _ _) | (with_reducible assumption) | (with_reducible refine Below.alloc ?_ ?_ _) | (with_reducible refine below_drewN ?_ _) | (with_reducible refine below_drew ?_) | (with_reducible refine below_ext ?_ ?_ _ _) | (with_reducible refine Below.setCell ?_ ?_ _) | (simp; done) | (simp; omega) | omega)), ?_⟩
      subst hbl hbh hbs hbn
      go_simp
    intro W ⟨hbW, hlW, hhW, hsW, hnW, y0, y1, y2, y3, y4, y5, y6, y7, y8, y9, yl, yh, ys⟩
    have KEEP := Lib.hid (show ∀ w', Below W.heap.size W w' → w'.cell? ⟨bn, 0, none⟩ = some (.int .i64 2) ∧ w'.cell? ⟨bn, 1, none⟩ = some (.bool false) ∧ w'.cell? ⟨bn, 2, none⟩ = some (.bool false) ∧ w'.cell? ⟨bn, 3, none⟩ = some (.int .u64 (hi 0 : Int)) ∧ w'.cell? ⟨bn, 4, none⟩ = some (.int .u64 (lo 0 : Int)) ∧ w'.cell? ⟨bn, 5, none⟩ = some (.int .i64 0) ∧ w'.cell? ⟨bn, 6, none⟩ = some (.string ⟨#[]⟩) ∧ w'.cell? ⟨bn, 7, none⟩ = some (.int .i64 0) ∧ w'.cell? ⟨bn, 8, none⟩ = some (.slice qlD 0 dlD) ∧ w'.cell? ⟨bn, 9, none⟩ = some (.slice qnD 0 dnD) ∧ w'.cell? ⟨bl, 0, none⟩ = some (.int .i64 0) ∧ w'.cell? ⟨bh, 0, none⟩ = some (.int .i64 0) from fun w' hb => ⟨(hb.cell (p := ⟨bn, 0, none⟩) hnW).trans y0, (hb.cell (p := ⟨bn, 1, none⟩) hnW).trans y1, (hb.cell (p := ⟨bn, 2, none⟩) hnW).trans y2, (hb.cell (p := ⟨bn, 3, none⟩) hnW).trans y3, (hb.cell (p := ⟨bn, 4, none⟩) hnW).trans y4, (hb.cell (p := ⟨bn, 5, none⟩) hnW).trans y5, (hb.cell (p := ⟨bn, 6, none⟩) hnW).trans y6, (hb.cell (p := ⟨bn, 7, none⟩) hnW).trans y7, (hb.cell (p := ⟨bn, 8, none⟩) hnW).trans y8, (hb.cell (p := ⟨bn, 9, none⟩) hnW).trans y9, (hb.cell (p := ⟨bl, 0, none⟩) hlW).trans yl, (hb.cell (p := ⟨bh, 0, none⟩) hhW).trans yh⟩)
    clear hbl hbh hbs hbn
    refine wp_region_held_drew (S := fun w' => w'.cell? ⟨bn, 0, none⟩ = some (.int .i64 2) ∧ w'.cell? ⟨bn, 1, none⟩ = some (.bool false) ∧ w'.cell? ⟨bn, 2, none⟩ = some (.bool false) ∧ w'.cell? ⟨bn, 3, none⟩ = some (.int .u64 (hi 0 : Int)) ∧ w'.cell? ⟨bn, 4, none⟩ = some (.int .u64 (lo 0 : Int)) ∧ w'.cell? ⟨bn, 5, none⟩ = some (.int .i64 0) ∧ w'.cell? ⟨bn, 6, none⟩ = some (.string ⟨#[]⟩) ∧ w'.cell? ⟨bn, 7, none⟩ = some (.int .i64 0) ∧ w'.cell? ⟨bn, 8, none⟩ = some (.slice qlD 0 dlD) ∧ w'.cell? ⟨bn, 9, none⟩ = some (.slice qnD 0 dnD) ∧ w'.cell? ⟨bl, 0, none⟩ = some (.int .i64 0) ∧ w'.cell? ⟨bh, 0, none⟩ = some (.int .i64 0)) (by kernel_rfl) ?n3xhSa (fun hHeld => ?n3xresta)
    case n3xhSa => ((try dsimp only); exact KEEP.out _ (by (repeat' (first | (with_reducible exact Below.refl _ _) | (with_reducible assumption) | (with_reducible refine Below.alloc ?_ ?_ _) | (with_reducible refine below_drewN ?_ _) | (with_reducible refine below_drew ?_) | (with_reducible refine below_ext ?_ ?_ _ _) | (with_reducible refine Below.setCell ?_ ?_ _) | (simp; done) | (simp; omega) | omega))))
    refine wpAnyH_take (i := 0) (oi := ({ dst := some 73, op := Op.move (Operand.tmp 4), type := 35, pos := "law.go:156", after := #[], guard := none } : Oper)) (v := ?n3xv1) rfl (by kernel_rfl) (by kernel_rfl) (by kernel_rfl) (fun _ _ _ h => h) (Or.inl ⟨by rfl, ?n3xhy1⟩) (by assumption) ?n3xre1
    case n3xhy1 => (intro w hSw; (try dsimp only at hSw); go_simp; try with_reducible rfl)
    (try simp only [Act.put, List.setIfInBounds_toArray, List.set_cons_zero, List.set_cons_succ])
    refine wpAnyH_take (i := 1) (oi := ({ dst := some 74, op := Op.binOp BinOp.neq 35 (Operand.tmp 73) (Operand.const (Value.int IntKind.i64 0)) 35, type := 4, pos := "law.go:156", after := #[{ on := 0, ground := Ground.data }], guard := none } : Oper)) (v := ?n3xv2) rfl (by kernel_rfl) (by kernel_rfl) (by kernel_rfl) (fun _ _ _ h => h) (Or.inl ⟨by rfl, ?n3xhy2⟩) (by assumption) ?n3xre2
    case n3xhy2 => (intro w hSw; (try dsimp only at hSw); go_simp; try with_reducible rfl)
    (try simp only [Act.put, List.setIfInBounds_toArray, List.set_cons_zero, List.set_cons_succ])
    refine wpAnyH_take (i := 2) (oi := ({ dst := some 75, op := Op.move (Operand.tmp 74), type := 4, pos := "law.go:156", after := #[{ on := 1, ground := Ground.data }], guard := none } : Oper)) (v := ?n3xv3) rfl (by kernel_rfl) (by kernel_rfl) (by kernel_rfl) (fun _ _ _ h => h) (Or.inl ⟨by rfl, ?n3xhy3⟩) (by assumption) ?n3xre3
    case n3xhy3 => (intro w hSw; (try dsimp only at hSw); go_simp; try with_reducible rfl)
    (try simp only [Act.put, List.setIfInBounds_toArray, List.set_cons_zero, List.set_cons_succ])
    refine wpAnyH_take (i := 3) (oi := ({ dst := some 76, op := Op.move (Operand.tmp 6), type := 35, pos := "law.go:156", after := #[{ on := 2, ground := Ground.guard }], guard := some (2, false) } : Oper)) (v := ?n3xv4) rfl (by kernel_rfl) (by kernel_rfl) (by kernel_rfl) (fun _ _ _ h => h) (Or.inl ⟨by rfl, ?n3xhy4⟩) (by assumption) ?n3xre4
    case n3xhy4 => (intro w hSw; (try dsimp only at hSw); go_simp; try with_reducible rfl)
    (try simp only [Act.put, List.setIfInBounds_toArray, List.set_cons_zero, List.set_cons_succ])
    refine wpAnyH_take (i := 4) (oi := ({ dst := some 77, op := Op.binOp BinOp.neq 35 (Operand.tmp 76) (Operand.const (Value.int IntKind.i64 0)) 35, type := 4, pos := "law.go:156", after := #[{ on := 3, ground := Ground.data }, { on := 2, ground := Ground.guard }], guard := some (2, false) } : Oper)) (v := ?n3xv5) rfl (by kernel_rfl) (by kernel_rfl) (by kernel_rfl) (fun _ _ _ h => h) (Or.inl ⟨by rfl, ?n3xhy5⟩) (by assumption) ?n3xre5
    case n3xhy5 => (intro w hSw; (try dsimp only at hSw); go_simp; try with_reducible rfl)
    (try simp only [Act.put, List.setIfInBounds_toArray, List.set_cons_zero, List.set_cons_succ])
    refine wpAnyH_take (i := 5) (oi := ({ dst := some 78, op := Op.pick (Operand.tmp 75) (Operand.const (Value.bool true)) (Operand.tmp 77), type := 4, pos := "law.go:156", after := #[{ on := 2, ground := Ground.data }, { on := 4, ground := Ground.data }], guard := none } : Oper)) (v := ?n3xv6) rfl (by kernel_rfl) (by kernel_rfl) (by kernel_rfl) (fun _ _ _ h => h) (Or.inl ⟨by rfl, ?n3xhy6⟩) (by assumption) ?n3xre6
    case n3xhy6 => (intro w hSw; (try dsimp only at hSw); go_simp; try with_reducible rfl)
    (try simp only [Act.put, List.setIfInBounds_toArray, List.set_cons_zero, List.set_cons_succ])
    refine wpAnyH_take (i := 6) (oi := ({ dst := some 79, op := Op.move (Operand.tmp 78), type := 4, pos := "law.go:156", after := #[{ on := 5, ground := Ground.data }, { on := 2, ground := Ground.chain }], guard := none } : Oper)) (v := ?n3xv7) rfl (by kernel_rfl) (by kernel_rfl) (by kernel_rfl) (fun _ _ _ h => h) (Or.inl ⟨by rfl, ?n3xhy7⟩) (by assumption) ?n3xre7
    case n3xhy7 => (intro w hSw; (try dsimp only at hSw); go_simp; try with_reducible rfl)
    (try simp only [Act.put, List.setIfInBounds_toArray, List.set_cons_zero, List.set_cons_succ])
    refine wpAnyH_take (i := 7) (oi := ({ dst := some 80, op := Op.move (Operand.tmp 10), type := 35, pos := "law.go:156", after := #[{ on := 6, ground := Ground.guard }], guard := some (6, false) } : Oper)) (v := ?n3xv8) rfl (by kernel_rfl) (by kernel_rfl) (by kernel_rfl) (fun _ _ _ h => h) (Or.inl ⟨by rfl, ?n3xhy8⟩) (by assumption) ?n3xre8
    case n3xhy8 => (intro w hSw; (try dsimp only at hSw); go_simp; try with_reducible rfl)
    (try simp only [Act.put, List.setIfInBounds_toArray, List.set_cons_zero, List.set_cons_succ])
    refine wpAnyH_take (i := 8) (oi := ({ dst := some 81, op := Op.binOp BinOp.neq 35 (Operand.tmp 80) (Operand.const (Value.int IntKind.i64 0)) 35, type := 4, pos := "law.go:156", after := #[{ on := 7, ground := Ground.data }, { on := 6, ground := Ground.guard }], guard := some (6, false) } : Oper)) (v := ?n3xv9) rfl (by kernel_rfl) (by kernel_rfl) (by kernel_rfl) (fun _ _ _ h => h) (Or.inl ⟨by rfl, ?n3xhy9⟩) (by assumption) ?n3xre9
    case n3xhy9 => (intro w hSw; (try dsimp only at hSw); go_simp; try with_reducible rfl)
    (try simp only [Act.put, List.setIfInBounds_toArray, List.set_cons_zero, List.set_cons_succ])
    refine wpAnyH_take (i := 9) (oi := ({ dst := some 82, op := Op.pick (Operand.tmp 79) (Operand.const (Value.bool true)) (Operand.tmp 81), type := 4, pos := "law.go:156", after := #[{ on := 6, ground := Ground.data }, { on := 8, ground := Ground.data }], guard := none } : Oper)) (v := ?n3xv10) rfl (by kernel_rfl) (by kernel_rfl) (by kernel_rfl) (fun _ _ _ h => h) (Or.inl ⟨by rfl, ?n3xhy10⟩) (by assumption) ?n3xre10
    case n3xhy10 => (intro w hSw; (try dsimp only at hSw); go_simp; try with_reducible rfl)
    (try simp only [Act.put, List.setIfInBounds_toArray, List.set_cons_zero, List.set_cons_succ])
    refine wpAnyH_take (i := 10) (oi := ({ dst := some 83, op := Op.move (Operand.tmp 82), type := 4, pos := "law.go:156", after := #[{ on := 9, ground := Ground.data }, { on := 6, ground := Ground.chain }], guard := none } : Oper)) (v := ?n3xv11) rfl (by kernel_rfl) (by kernel_rfl) (by kernel_rfl) (fun _ _ _ h => h) (Or.inl ⟨by rfl, ?n3xhy11⟩) (by assumption) ?n3xre11
    case n3xhy11 => (intro w hSw; (try dsimp only at hSw); go_simp; try with_reducible rfl)
    (try simp only [Act.put, List.setIfInBounds_toArray, List.set_cons_zero, List.set_cons_succ])
    refine wpAnyH_take (i := 11) (oi := ({ dst := some 84, op := Op.move (Operand.tmp 8), type := 35, pos := "law.go:156", after := #[{ on := 10, ground := Ground.guard }], guard := some (10, false) } : Oper)) (v := ?n3xv12) rfl (by kernel_rfl) (by kernel_rfl) (by kernel_rfl) (fun _ _ _ h => h) (Or.inl ⟨by rfl, ?n3xhy12⟩) (by assumption) ?n3xre12
    case n3xhy12 => (intro w hSw; (try dsimp only at hSw); go_simp; try with_reducible rfl)
    (try simp only [Act.put, List.setIfInBounds_toArray, List.set_cons_zero, List.set_cons_succ])
    refine wpAnyH_take (i := 12) (oi := ({ dst := some 85, op := Op.binOp BinOp.neq 35 (Operand.tmp 84) (Operand.const (Value.int IntKind.i64 0)) 35, type := 4, pos := "law.go:156", after := #[{ on := 11, ground := Ground.data }, { on := 10, ground := Ground.guard }], guard := some (10, false) } : Oper)) (v := ?n3xv13) rfl (by kernel_rfl) (by kernel_rfl) (by kernel_rfl) (fun _ _ _ h => h) (Or.inl ⟨by rfl, ?n3xhy13⟩) (by assumption) ?n3xre13
    case n3xhy13 => (intro w hSw; (try dsimp only at hSw); go_simp; try with_reducible rfl)
    (try simp only [Act.put, List.setIfInBounds_toArray, List.set_cons_zero, List.set_cons_succ])
    refine wpAnyH_take (i := 13) (oi := ({ dst := some 86, op := Op.move (Operand.tmp 85), type := 4, pos := "law.go:156", after := #[{ on := 12, ground := Ground.data }, { on := 10, ground := Ground.chain }, { on := 10, ground := Ground.guard }], guard := some (10, false) } : Oper)) (v := ?n3xv14) rfl (by kernel_rfl) (by kernel_rfl) (by kernel_rfl) (fun _ _ _ h => h) (Or.inl ⟨by rfl, ?n3xhy14⟩) (by assumption) ?n3xre14
    case n3xhy14 => (intro w hSw; (try dsimp only at hSw); go_simp; try with_reducible rfl)
    (try simp only [Act.put, List.setIfInBounds_toArray, List.set_cons_zero, List.set_cons_succ])
    refine wpAnyH_take (i := 14) (oi := ({ dst := some 87, op := Op.move (Operand.tmp 8), type := 35, pos := "law.go:156", after := #[{ on := 13, ground := Ground.guard }], guard := some (13, true) } : Oper)) (v := undef) rfl (by kernel_rfl) (by kernel_rfl) (by kernel_rfl) (fun _ _ _ h => h) (Or.inr ⟨by rfl, rfl⟩) (by assumption) ?n3xre15
    (try simp only [Act.put, List.setIfInBounds_toArray, List.set_cons_zero, List.set_cons_succ])
    refine wpAnyH_take (i := 15) (oi := ({ dst := some 88, op := Op.binOp BinOp.neq 35 (Operand.tmp 87) (Operand.const (Value.int IntKind.i64 3)) 35, type := 4, pos := "law.go:156", after := #[{ on := 14, ground := Ground.data }, { on := 13, ground := Ground.guard }], guard := some (13, true) } : Oper)) (v := undef) rfl (by kernel_rfl) (by kernel_rfl) (by kernel_rfl) (fun _ _ _ h => h) (Or.inr ⟨by rfl, rfl⟩) (by assumption) ?n3xre16
    (try simp only [Act.put, List.setIfInBounds_toArray, List.set_cons_zero, List.set_cons_succ])
    refine wpAnyH_take (i := 16) (oi := ({ dst := some 89, op := Op.pick (Operand.tmp 86) (Operand.tmp 88) (Operand.const (Value.bool false)), type := 4, pos := "law.go:156", after := #[{ on := 13, ground := Ground.data }, { on := 15, ground := Ground.data }, { on := 10, ground := Ground.guard }], guard := some (10, false) } : Oper)) (v := ?n3xv17) rfl (by kernel_rfl) (by kernel_rfl) (by kernel_rfl) (fun _ _ _ h => h) (Or.inl ⟨by rfl, ?n3xhy17⟩) (by assumption) ?n3xre17
    case n3xhy17 => (intro w hSw; (try dsimp only at hSw); go_simp; try with_reducible rfl)
    (try simp only [Act.put, List.setIfInBounds_toArray, List.set_cons_zero, List.set_cons_succ])
    refine wpAnyH_take (i := 17) (oi := ({ dst := some 90, op := Op.pick (Operand.tmp 83) (Operand.const (Value.bool true)) (Operand.tmp 89), type := 4, pos := "law.go:156", after := #[{ on := 10, ground := Ground.data }, { on := 16, ground := Ground.data }], guard := none } : Oper)) (v := ?n3xv18) rfl (by kernel_rfl) (by kernel_rfl) (by kernel_rfl) (fun _ _ _ h => h) (Or.inl ⟨by rfl, ?n3xhy18⟩) (by assumption) ?n3xre18
    case n3xhy18 => (intro w hSw; (try dsimp only at hSw); go_simp; try with_reducible rfl)
    (try simp only [Act.put, List.setIfInBounds_toArray, List.set_cons_zero, List.set_cons_succ])
    refine wpAnyH_take (i := 18) (oi := ({ dst := some 91, op := Op.move (Operand.tmp 90), type := 4, pos := "law.go:156", after := #[{ on := 17, ground := Ground.data }, { on := 13, ground := Ground.chain }], guard := none } : Oper)) (v := ?n3xv19) rfl (by kernel_rfl) (by kernel_rfl) (by kernel_rfl) (fun _ _ _ h => h) (Or.inl ⟨by rfl, ?n3xhy19⟩) (by assumption) ?n3xre19
    case n3xhy19 => (intro w hSw; (try dsimp only at hSw); go_simp; try with_reducible rfl)
    (try simp only [Act.put, List.setIfInBounds_toArray, List.set_cons_zero, List.set_cons_succ])
    refine wpAnyH_take (i := 19) (oi := ({ dst := some 92, op := Op.load 34 (Operand.tmp 9), type := 34, pos := "law.go:156", after := #[{ on := 18, ground := Ground.guard }], guard := some (18, false) } : Oper)) (v := ?n3xv20) rfl (by kernel_rfl) (by kernel_rfl) (by kernel_rfl) (fun _ _ _ h => h) (Or.inl ⟨by rfl, ?n3xhy20⟩) (by assumption) ?n3xre20
    case n3xhy20 => (intro w hSw; (try dsimp only at hSw); go_simp; try with_reducible rfl)
    (try simp only [Act.put, List.setIfInBounds_toArray, List.set_cons_zero, List.set_cons_succ])
    refine wpAnyH_take (i := 20) (oi := ({ dst := some 93, op := Op.move (Operand.tmp 11), type := 3, pos := "law.go:156", after := #[{ on := 18, ground := Ground.guard }], guard := some (18, false) } : Oper)) (v := ?n3xv21) rfl (by kernel_rfl) (by kernel_rfl) (by kernel_rfl) (fun _ _ _ h => h) (Or.inl ⟨by rfl, ?n3xhy21⟩) (by assumption) ?n3xre21
    case n3xhy21 => (intro w hSw; (try dsimp only at hSw); go_simp; try with_reducible rfl)
    (try simp only [Act.put, List.setIfInBounds_toArray, List.set_cons_zero, List.set_cons_succ])
    refine wpAnyH_take (i := 21) (oi := ({ dst := some 94, op := Op.convert 3 28 (Operand.tmp 93), type := 28, pos := "law.go:156", after := #[{ on := 20, ground := Ground.data }, { on := 18, ground := Ground.guard }], guard := some (18, false) } : Oper)) (v := ?n3xv22) rfl (by kernel_rfl) (by kernel_rfl) (by kernel_rfl) (fun _ _ _ h => h) (Or.inl ⟨by rfl, ?n3xhy22⟩) (by assumption) ?n3xre22
    case n3xhy22 => (intro w hSw; (try dsimp only at hSw); go_simp; try with_reducible rfl)
    (try simp only [Act.put, List.setIfInBounds_toArray, List.set_cons_zero, List.set_cons_succ])
    refine wpAnyH_ready (rs := [22]) (by kernel_rfl) (by simp) ?_
    refine AllReadyH.cons (o := ({ dst := some 95, op := Op.call { callee := Callee.value (Operand.func 7), args := #[Operand.tmp 94], argTypes := #[28] }, type := 34, pos := "law.go:156", after := #[{ on := 21, ground := Ground.data }, { on := 18, ground := Ground.chain }, { on := 18, ground := Ground.guard }], guard := some (18, false) } : Oper)) rfl (fun K hK => ?_) AllReadyH.nil
    go_simp
    (go_at_call 7; ((with_reducible refine (HNM.out _).mono ?_); rintro e w1 ⟨rfl, hb1⟩; obtain ⟨osE, dE, rfl⟩ := ext_of_below hb1; clear hb1))
    refine hK.out _ _ ?n3xhS23 (fun hHeldN => ?n3xrst23)
    case n3xhS23 => ((try dsimp only); exact KEEP.out _ (by (repeat' (first | (with_reducible exact Below.refl _ _) | (with_reducible assumption) | (with_reducible refine Below.alloc ?_ ?_ _) | (with_reducible refine below_drewN ?_ _) | (with_reducible refine below_drew ?_) | (with_reducible refine below_ext ?_ ?_ _ _) | (with_reducible refine Below.setCell ?_ ?_ _) | (simp; done) | (simp; omega) | omega))))
    clear hHeld hK K
    have hHeld := hHeldN
    clear hHeldN
    refine wpAnyH_ready (rs := [23]) (by kernel_rfl) (by simp) ?_
    refine AllReadyH.cons (o := ({ dst := some 96, op := Op.call { callee := Callee.value (Operand.func 6), args := #[Operand.tmp 92, Operand.tmp 95], argTypes := #[34, 34] }, type := 4, pos := "law.go:156", after := #[{ on := 19, ground := Ground.data }, { on := 22, ground := Ground.data }, { on := 22, ground := Ground.chain }, { on := 18, ground := Ground.guard }], guard := some (18, false) } : Oper)) rfl (fun K hK => ?_) AllReadyH.nil
    go_simp
    (go_at_call 6; ((with_reducible refine (HSM.out _ _ _ _ _).mono ?_); rintro e w1 ⟨rfl, hb1⟩; obtain ⟨osF, dF, rfl⟩ := ext_of_below hb1; clear hb1))
    refine hK.out _ _ ?n3xhS24 (fun hHeldN => ?n3xrst24)
    case n3xhS24 => ((try dsimp only); exact KEEP.out _ (by (repeat' (first | (with_reducible exact Below.refl _ _) | (with_reducible assumption) | (with_reducible refine Below.alloc ?_ ?_ _) | (with_reducible refine below_drewN ?_ _) | (with_reducible refine below_drew ?_) | (with_reducible refine below_ext ?_ ?_ _ _) | (with_reducible refine Below.setCell ?_ ?_ _) | (simp; done) | (simp; omega) | omega))))
    clear hHeld hK K
    have hHeld := hHeldN
    clear hHeldN
    refine wpAnyH_take (i := 24) (oi := ({ dst := some 97, op := Op.unOp UnOp.not 4 (Operand.tmp 96), type := 4, pos := "law.go:156", after := #[{ on := 23, ground := Ground.data }, { on := 18, ground := Ground.guard }], guard := some (18, false) } : Oper)) (v := ?n3xv25) rfl (by kernel_rfl) (by kernel_rfl) (by kernel_rfl) (fun _ _ _ h => h) (Or.inl ⟨by rfl, ?n3xhy25⟩) (by assumption) ?n3xre25
    case n3xhy25 => (intro w hSw; (try dsimp only at hSw); go_simp; try with_reducible rfl)
    (try simp only [Act.put, List.setIfInBounds_toArray, List.set_cons_zero, List.set_cons_succ])
    refine wpAnyH_take (i := 25) (oi := ({ dst := some 98, op := Op.pick (Operand.tmp 91) (Operand.const (Value.bool true)) (Operand.tmp 97), type := 4, pos := "law.go:156", after := #[{ on := 18, ground := Ground.data }, { on := 24, ground := Ground.data }], guard := none } : Oper)) (v := ?n3xv26) rfl (by kernel_rfl) (by kernel_rfl) (by kernel_rfl) (fun _ _ _ h => h) (Or.inl ⟨by rfl, ?n3xhy26⟩) (by assumption) ?n3xre26
    case n3xhy26 => (intro w hSw; (try dsimp only at hSw); go_simp; try with_reducible rfl)
    (try simp only [Act.put, List.setIfInBounds_toArray, List.set_cons_zero, List.set_cons_succ])
    refine wpAnyH_take (i := 26) (oi := ({ dst := some 99, op := Op.move (Operand.tmp 98), type := 4, pos := "law.go:156", after := #[{ on := 25, ground := Ground.data }, { on := 23, ground := Ground.chain }], guard := none } : Oper)) (v := ?n3xv27) rfl (by kernel_rfl) (by kernel_rfl) (by kernel_rfl) (fun _ _ _ h => h) (Or.inl ⟨by rfl, ?n3xhy27⟩) (by assumption) ?n3xre27
    case n3xhy27 => (intro w hSw; (try dsimp only at hSw); go_simp; try with_reducible rfl)
    (try simp only [Act.put, List.setIfInBounds_toArray, List.set_cons_zero, List.set_cons_succ])
    refine wpAnyH_take (i := 27) (oi := ({ dst := some 100, op := Op.fieldAddr 34 (Operand.tmp 3) 0, type := 0, pos := "law.go:156", after := #[{ on := 26, ground := Ground.guard }], guard := some (26, false) } : Oper)) (v := ?n3xv28) rfl (by kernel_rfl) (by kernel_rfl) (by kernel_rfl) (fun _ _ _ h => h) (Or.inl ⟨by rfl, ?n3xhy28⟩) (by assumption) ?n3xre28
    case n3xhy28 => (intro w hSw; (try dsimp only at hSw); go_simp; try with_reducible rfl)
    (try simp only [Act.put, List.setIfInBounds_toArray, List.set_cons_zero, List.set_cons_succ])
    refine wpAnyH_take (i := 28) (oi := ({ dst := some 101, op := Op.load 3 (Operand.tmp 100), type := 3, pos := "law.go:156", after := #[{ on := 27, ground := Ground.data }, { on := 26, ground := Ground.guard }], guard := some (26, false) } : Oper)) (v := ?n3xv29) rfl (by kernel_rfl) (by kernel_rfl) (by kernel_rfl) (fun _ _ _ h => h) (Or.inl ⟨by rfl, ?n3xhy29⟩) (by assumption) ?n3xre29
    case n3xhy29 => (intro w hSw; (try dsimp only at hSw); go_simp; try with_reducible rfl)
    (try simp only [Act.put, List.setIfInBounds_toArray, List.set_cons_zero, List.set_cons_succ])
    refine wpAnyH_take (i := 29) (oi := ({ dst := some 102, op := Op.fieldAddr 34 (Operand.tmp 5) 0, type := 0, pos := "law.go:156", after := #[{ on := 26, ground := Ground.guard }], guard := some (26, false) } : Oper)) (v := ?n3xv30) rfl (by kernel_rfl) (by kernel_rfl) (by kernel_rfl) (fun _ _ _ h => h) (Or.inl ⟨by rfl, ?n3xhy30⟩) (by assumption) ?n3xre30
    case n3xhy30 => (intro w hSw; (try dsimp only at hSw); go_simp; try with_reducible rfl)
    (try simp only [Act.put, List.setIfInBounds_toArray, List.set_cons_zero, List.set_cons_succ])
    refine wpAnyH_take (i := 30) (oi := ({ dst := some 103, op := Op.load 3 (Operand.tmp 102), type := 3, pos := "law.go:156", after := #[{ on := 29, ground := Ground.data }, { on := 26, ground := Ground.guard }], guard := some (26, false) } : Oper)) (v := ?n3xv31) rfl (by kernel_rfl) (by kernel_rfl) (by kernel_rfl) (fun _ _ _ h => h) (Or.inl ⟨by rfl, ?n3xhy31⟩) (by assumption) ?n3xre31
    case n3xhy31 => (intro w hSw; (try dsimp only at hSw); go_simp; try with_reducible rfl)
    (try simp only [Act.put, List.setIfInBounds_toArray, List.set_cons_zero, List.set_cons_succ])
    refine wpAnyH_take (i := 31) (oi := ({ dst := some 104, op := Op.binOp BinOp.neq 3 (Operand.tmp 101) (Operand.tmp 103) 3, type := 4, pos := "law.go:156", after := #[{ on := 28, ground := Ground.data }, { on := 30, ground := Ground.data }, { on := 26, ground := Ground.guard }], guard := some (26, false) } : Oper)) (v := ?n3xv32) rfl (by kernel_rfl) (by kernel_rfl) (by kernel_rfl) (fun _ _ _ h => h) (Or.inl ⟨by rfl, ?n3xhy32⟩) (by assumption) ?n3xre32
    case n3xhy32 => (intro w hSw; (try dsimp only at hSw); go_simp; try with_reducible rfl)
    (try simp only [Act.put, List.setIfInBounds_toArray, List.set_cons_zero, List.set_cons_succ])
    refine wpAnyH_take (i := 32) (oi := ({ dst := some 105, op := Op.pick (Operand.tmp 99) (Operand.const (Value.bool true)) (Operand.tmp 104), type := 4, pos := "law.go:156", after := #[{ on := 26, ground := Ground.data }, { on := 31, ground := Ground.data }], guard := none } : Oper)) (v := ?n3xv33) rfl (by kernel_rfl) (by kernel_rfl) (by kernel_rfl) (fun _ _ _ h => h) (Or.inl ⟨by rfl, ?n3xhy33⟩) (by assumption) ?n3xre33
    case n3xhy33 => (intro w hSw; (try dsimp only at hSw); go_simp; try with_reducible rfl)
    (try simp only [Act.put, List.setIfInBounds_toArray, List.set_cons_zero, List.set_cons_succ])
    refine wpAnyH_done (by kernel_rfl) ?_ _
    clear hHeld
    obtain ⟨W2, hW2⟩ : ∃ W2, W2 = ext (ext W.drew osE dE) osF dF := ⟨_, rfl⟩
    have hb2 : Below W.heap.size W W2 := by rw [hW2]; (repeat' (first | (with_reducible exact Below.refl _ _) | (with_reducible assumption) | (with_reducible refine Below.alloc ?_ ?_ _) | (with_reducible refine below_drewN ?_ _) | (with_reducible refine below_drew ?_) | (with_reducible refine below_ext ?_ ?_ _ _) | (with_reducible refine Below.setCell ?_ ?_ _) | (simp; done) | (simp; omega) | omega))
    rw [← hW2]
    have zl := (hb2.cell (p := ⟨bl, 0, none⟩) hlW).trans yl
    have zs := (hb2.cell (p := ⟨bs, 0, none⟩) hsW).trans ys
    clear hW2
    go_wp2
    go_returns
    exact ⟨rfl, hbW.trans (hb2.mono hbW.size)⟩
end Go.Proofs.YtjkallelniggpaaGreatDoor
