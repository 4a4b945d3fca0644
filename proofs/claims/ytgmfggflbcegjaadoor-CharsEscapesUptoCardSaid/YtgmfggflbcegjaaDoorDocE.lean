/-
  The document's bytes of a character.
-/
import Derived.Test.YtgmfggflbcegjaaDoorDu
import Derived.Test.YtgmfggflbcegjaaDoorOne
import Derived.Lib.ConvBytes
namespace Go.Proofs.YtgmfggflbcegjaaDoor
open Go.RowKit Txt
attribute [local go_sem] setCell_drewN cell?_ext frozen?_ext shape?_ext setCell_ext lt_1' ne_1' en_1' le_1' lt_2' ne_2' en_2' le_2' lt_3' ne_3' en_3' le_3' lt_4' ne_4' en_4' le_4' lt_5' ne_5' en_5' le_5' lt_6' ne_6' en_6' le_6' lt_7' ne_7' en_7' le_7' lt_8' ne_8' en_8' le_8' lt_9' ne_9' en_9' le_9' lt_10' ne_10' en_10' le_10' lt_11' ne_11' en_11' le_11' lt_12' ne_12' en_12' le_12'

/-- the slice v reads, in w, as these bytes -/
def Src (w : World) (v : Value) (l : List UInt8) : Prop := ∃ g cap, v = .slice (some ⟨g, 0, none⟩) l.length cap ∧ ∀ j (hj : j < l.length), w.cell? ⟨g, j, none⟩ = some (.int .u8 (l[j].toNat : Int))
theorem append_src {ops : Array Oper} {rest : List Oper} {o : Oper} {a : Act} {Q : Exit → Act → World → Prop} {w : World} (hgd : o.guard = none) (sl x : Operand)
    (ho : o.op = .call { callee := .builtin .append, args := #[sl, x], argTypes := #[57, 57] })
    {B : Nat} {v : Value} {l m : List UInt8} {W0 : World} {sv : Value} (hs : a.eval sl = v) (hx : a.eval x = sv) (hb : Buf B v l W0 w) (hsrc : Src w sv m) (hlen : l.length + m.length ≤ 140737488355328)
    (h : ∀ v' w', Buf B v' (l ++ m) W0 w' → wpList Tryd.prog ops Q rest (a.put o.dst v') w') : wpList Tryd.prog ops Q (o :: rest) a w := by
  obtain ⟨i0, hi, hz0, hz1, hz2⟩ := info_parts infoByte
  obtain ⟨g, cap, rfl, hc⟩ := hsrc
  refine wpList_append_ownF _ hgd sl x 57 ho B 5 i0 (.int .u8 0) 1 1 Tryd.underlying57 hi hz0 hz1 hz2 rfl (by decide) v l.length (Lib.byteCells l) hs hb.1 ⟨g, 0, none⟩ m.length cap (Lib.byteCells m) hx (by simp [Lib.byteCells]) ?_ ?_ (by unfold maxLen; omega) (by omega) hb.2.2 ?_
  · intro j u hj
    obtain ⟨hlt, e⟩ : ∃ h : j < m.length, .int .u8 (m[j].toNat : Int) = u := by
      have := List.getElem?_eq_some_iff.1 hj
      obtain ⟨h1, h2⟩ := this
      have h3 : j < m.length := by simpa [Lib.byteCells] using h1
      exact ⟨h3, by simpa [Lib.byteCells] using h2⟩
    rw [← e, ← hc j hlt]
    by_cases hj0 : j = 0
    · subst hj0; rfl
    · simp [Addr.add, hj0]
  · intro u hu
    simp only [Lib.byteCells, List.mem_map] at hu
    obtain ⟨c, _, rfl⟩ := hu
    rfl
  · intro v' w' ho' hg _
    refine h v' w' (Buf.congr (hb.grown ho' hg) (by rw [List.length_append]) (by simp [Lib.byteCells]))
theorem src_alloc (w : World) (l : List UInt8) (a : Array Value) (n cap : Nat) (hn : n = l.length) (ha : a.toList = Lib.byteCells l) : Src (w.alloc (.cells a 5)) (.slice (some ⟨w.heap.size, 0, none⟩) n cap) l := by
  subst hn
  refine ⟨_, _, rfl, fun j hj => ?_⟩
  have hj2 : j < a.size := by rw [← Array.length_toList, ha]; simpa [Lib.byteCells] using hj
  have e : a[j]? = some (.int .u8 (l[j].toNat : Int)) := by
    rw [← Array.getElem?_toList, ha]
    simp [Lib.byteCells, List.getElem?_eq_getElem hj]
  rw [World.cell?_alloc_at _ _ _ _ rfl]
  exact e
set_option maxRecDepth 100000 in
set_option maxHeartbeats 4000000 in
theorem rbytes_one (c : Nat) (h : c < 128) (w : World) :
    Calls Tryd.prog 71 #[.int .i64 (c : Int)] w fun e w' => ∃ v, e = .returned v ∧ Src w' v (Lib.encodeRune c) ∧ Below w.heap.size w w' := by
  have h1 : (c : Int) < 128 := by omega
  have hz : Lib.encodeRuneZ (c : Int) = _ := Lib.encodeRuneZ_one (r := (c : Int)) (by omega) (by omega)
  have hr : Lib.byteCells (Lib.encodeRune (c : Int)) = _ := (Lib.byteCells_encodeRune _).trans (congrArg (List.map fun x => Value.int .u8 x) hz)
  have hl : (Lib.encodeRune (c : Int)).length = 1 := by simp only [Lib.encodeRune, List.length_map]; rw [hz]; rfl
  have HR := Lib.hid hr; have HL := Lib.hid hl
  clear hz hr hl
  go_enter Tryd.func71, Tryd.ntmps71
  go_wp2
  go_ret
  exact ⟨_, rfl, src_alloc w _ _ _ _ HL.out.symm (by rw [HR.out]; rfl), by (repeat' (first | (with_reducible exact Below.refl _ _) | (with_reducible assumption) | (with_reducible refine Below.alloc ?_ ?_ _) | (with_reducible refine below_drewN ?_ _) | (with_reducible refine below_drew ?_) | (with_reducible refine below_ext ?_ ?_ _ _) | (with_reducible refine Below.setCell ?_ ?_ _) | (simp; done) | (simp; omega) | omega))⟩
set_option maxRecDepth 100000 in
set_option maxHeartbeats 4000000 in
theorem rbytes_two (c : Nat) (h : 128 ≤ c) (h2 : c < 2048) (w : World) :
    Calls Tryd.prog 71 #[.int .i64 (c : Int)] w fun e w' => ∃ v, e = .returned v ∧ Src w' v (Lib.encodeRune c) ∧ Below w.heap.size w w' := by
  have h1 : (128 : Int) ≤ c := by omega
  have h3 : (c : Int) < 2048 := by omega
  have hz : Lib.encodeRuneZ (c : Int) = _ := Lib.encodeRuneZ_two (r := (c : Int)) (by omega) (by omega)
  have hr : Lib.byteCells (Lib.encodeRune (c : Int)) = _ := (Lib.byteCells_encodeRune _).trans (congrArg (List.map fun x => Value.int .u8 x) hz)
  have hl : (Lib.encodeRune (c : Int)).length = 2 := by simp only [Lib.encodeRune, List.length_map]; rw [hz]; rfl
  have HR := Lib.hid hr; have HL := Lib.hid hl
  clear hz hr hl
  go_enter Tryd.func71, Tryd.ntmps71
  go_wp2
  go_ret
  exact ⟨_, rfl, src_alloc w _ _ _ _ HL.out.symm (by rw [HR.out]; rfl), by (repeat' (first | (with_reducible exact Below.refl _ _) | (with_reducible assumption) | (with_reducible refine Below.alloc ?_ ?_ _) | (with_reducible refine below_drewN ?_ _) | (with_reducible refine below_drew ?_) | (with_reducible refine below_ext ?_ ?_ _ _) | (with_reducible refine Below.setCell ?_ ?_ _) | (simp; done) | (simp; omega) | omega))⟩
set_option maxRecDepth 100000 in
set_option maxHeartbeats 4000000 in
theorem rbytes_three (c : Nat) (h : 2048 ≤ c) (h2 : c < 65536) (hsur : c < 55296 ∨ 57343 < c) (w : World) :
    Calls Tryd.prog 71 #[.int .i64 (c : Int)] w fun e w' => ∃ v, e = .returned v ∧ Src w' v (Lib.encodeRune c) ∧ Below w.heap.size w w' := by
  have h1 : ¬ (c : Int) < 2048 := by omega
  have h3 : (c : Int) < 65536 := by omega
  have h4 : ¬ (c : Int) < 128 := by omega
  have hz : Lib.encodeRuneZ (c : Int) = _ := Lib.encodeRuneZ_three (r := (c : Int)) (by omega)
  have hr : Lib.byteCells (Lib.encodeRune (c : Int)) = _ := (Lib.byteCells_encodeRune _).trans (congrArg (List.map fun x => Value.int .u8 x) hz)
  have hl : (Lib.encodeRune (c : Int)).length = 3 := by simp only [Lib.encodeRune, List.length_map]; rw [hz]; rfl
  have HL := Lib.hid hl
  obtain ⟨q, E1⟩ : ∃ q, (c : Int) / 4096 = q := ⟨_, rfl⟩
  obtain ⟨p, E2⟩ : ∃ q, (c : Int) / 64 = q := ⟨_, rfl⟩
  obtain ⟨r, E3⟩ : ∃ q, p % 64 = q := ⟨_, rfl⟩
  obtain ⟨t, E4⟩ : ∃ q, (c : Int) % 64 = q := ⟨_, rfl⟩
  rw [E1, E2, E3, E4] at hr
  have HR := Lib.hid hr
  have b1 : 0 ≤ q := by omega
  have b2 : q ≤ 15 := by omega
  have b3 : 0 ≤ r := by omega
  have b4 : r ≤ 63 := by omega
  have b5 : 0 ≤ t := by omega
  have b6 : t ≤ 63 := by omega
  have b7 : 0 ≤ p := by omega
  clear hz hr hl h h2 hsur
  go_enter Tryd.func71, Tryd.ntmps71
  go_wp2
  go_ret
  exact ⟨_, rfl, src_alloc w _ _ _ _ HL.out.symm (by rw [HR.out]; rfl), by (repeat' (first | (with_reducible exact Below.refl _ _) | (with_reducible assumption) | (with_reducible refine Below.alloc ?_ ?_ _) | (with_reducible refine below_drewN ?_ _) | (with_reducible refine below_drew ?_) | (with_reducible refine below_ext ?_ ?_ _ _) | (with_reducible refine Below.setCell ?_ ?_ _) | (simp; done) | (simp; omega) | omega))⟩
set_option maxRecDepth 100000 in
set_option maxHeartbeats 4000000 in
theorem rbytes_four (c : Nat) (h : 65536 ≤ c) (h2 : c ≤ 1114111) (w : World) :
    Calls Tryd.prog 71 #[.int .i64 (c : Int)] w fun e w' => ∃ v, e = .returned v ∧ Src w' v (Lib.encodeRune c) ∧ Below w.heap.size w w' := by
  have h1 : ¬ (c : Int) < 65536 := by omega
  have h4 : ¬ (c : Int) < 128 := by omega
  have h5 : ¬ (c : Int) < 2048 := by omega
  have hz : Lib.encodeRuneZ (c : Int) = _ := Lib.encodeRuneZ_four (r := (c : Int)) (by omega) (by omega)
  have hr : Lib.byteCells (Lib.encodeRune (c : Int)) = _ := (Lib.byteCells_encodeRune _).trans (congrArg (List.map fun x => Value.int .u8 x) hz)
  have hl : (Lib.encodeRune (c : Int)).length = 4 := by simp only [Lib.encodeRune, List.length_map]; rw [hz]; rfl
  have HL := Lib.hid hl
  obtain ⟨o, E0⟩ : ∃ q, (c : Int) / 262144 = q := ⟨_, rfl⟩
  obtain ⟨u, E1⟩ : ∃ q, (c : Int) / 4096 = q := ⟨_, rfl⟩
  obtain ⟨q, E5⟩ : ∃ q, u % 64 = q := ⟨_, rfl⟩
  obtain ⟨p, E2⟩ : ∃ q, (c : Int) / 64 = q := ⟨_, rfl⟩
  obtain ⟨r, E3⟩ : ∃ q, p % 64 = q := ⟨_, rfl⟩
  obtain ⟨t, E4⟩ : ∃ q, (c : Int) % 64 = q := ⟨_, rfl⟩
  rw [E0, E1, E5, E2, E3, E4] at hr
  have HR := Lib.hid hr
  have b1 : 0 ≤ q := by omega
  have b2 : q ≤ 63 := by omega
  have b3 : 0 ≤ r := by omega
  have b4 : r ≤ 63 := by omega
  have b5 : 0 ≤ t := by omega
  have b6 : t ≤ 63 := by omega
  have b7 : 0 ≤ p := by omega
  have b8 : 0 ≤ u := by omega
  have b9 : 0 ≤ o := by omega
  have ba : o ≤ 7 := by omega
  clear hz hr hl h h2
  go_enter Tryd.func71, Tryd.ntmps71
  go_wp2
  go_ret
  exact ⟨_, rfl, src_alloc w _ _ _ _ HL.out.symm (by rw [HR.out]; rfl), by (repeat' (first | (with_reducible exact Below.refl _ _) | (with_reducible assumption) | (with_reducible refine Below.alloc ?_ ?_ _) | (with_reducible refine below_drewN ?_ _) | (with_reducible refine below_drew ?_) | (with_reducible refine below_ext ?_ ?_ _ _) | (with_reducible refine Below.setCell ?_ ?_ _) | (simp; done) | (simp; omega) | omega))⟩
theorem rbytes_any (c : Nat) (h : okI (c : Int) = true) (w : World) :
    Calls Tryd.prog 71 #[.int .i64 (c : Int)] w fun e w' => ∃ v, e = .returned v ∧ Src w' v (Lib.encodeRune c) ∧ Below w.heap.size w w' := by
  have h := of_decide_eq_true h
  by_cases h1 : c < 128
  · exact rbytes_one c h1 w
  by_cases h2 : c < 2048
  · exact rbytes_two c (by omega) h2 w
  by_cases h3 : c < 65536
  · exact rbytes_three c (by omega) h3 (by omega) w
  exact rbytes_four c (by omega) (by omega) w
end Go.Proofs.YtgmfggflbcegjaaDoor
