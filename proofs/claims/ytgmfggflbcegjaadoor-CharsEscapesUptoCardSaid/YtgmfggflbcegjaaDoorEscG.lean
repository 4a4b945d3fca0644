/-
  Blanks as they are read; a character's bytes put behind a buffer.
-/
import Derived.Test.YtgmfggflbcegjaaDoorUne
namespace Go.Proofs.YtgmfggflbcegjaaDoor
open Go.RowKit Txt
attribute [local go_sem] setCell_drewN cell?_ext frozen?_ext shape?_ext setCell_ext lt_1' ne_1' en_1' le_1' lt_2' ne_2' en_2' le_2' lt_3' ne_3' en_3' le_3' lt_4' ne_4' en_4' le_4' lt_5' ne_5' en_5' le_5' lt_6' ne_6' en_6' le_6' lt_7' ne_7' en_7' le_7' lt_8' ne_8' en_8' le_8' lt_9' ne_9' en_9' le_9' lt_10' ne_10' en_10' le_10' lt_11' ne_11' en_11' le_11' lt_12' ne_12' en_12' le_12'

theorem blank_any (c : UInt8) (attr : Bool) (w : World) :
    Calls Tryd.prog 65 #[.int .u8 (c.toNat : Int), .bool attr] w fun e w' => e = .returned (.int .u8 ((bl attr c).toNat : Int)) ∧ w = w' := by
  cases attr with
  | false =>
    rw [show bl false c = c from if_neg (by rintro ⟨h, _⟩; cases h)]
    go_enter Tryd.func65, Tryd.ntmps65
    go_wp2
    go_ret
    exact ⟨rfl, rfl⟩
  | true =>
    by_cases h9 : c = 9
    · subst h9
      rw [show bl true 9 = 32 from rfl]
      go_enter Tryd.func65, Tryd.ntmps65
      go_wp2
      go_ret
      exact ⟨rfl, rfl⟩
    by_cases h10 : c = 10
    · subst h10
      rw [show bl true 10 = 32 from rfl]
      go_enter Tryd.func65, Tryd.ntmps65
      go_wp2
      go_ret
      exact ⟨rfl, rfl⟩
    rw [bl_other h9 h10]
    have g9 : ((c.toNat : Int) == 9) = false := u8_ne h9
    have g10 : ((c.toNat : Int) == 10) = false := u8_ne h10
    clear h9 h10
    go_enter Tryd.func65, Tryd.ntmps65
    go_wp2
    go_ret
    exact ⟨rfl, rfl⟩
theorem appendRune_buf {B : Nat} {v : Value} {l : List UInt8} {W0 w : World} (hb : Buf B v l W0 w) (r : Int) (hr0 : -2147483648 ≤ r) (hr1 : r ≤ 2147483647) (hlen : l.length + 4 ≤ 140737488355328) :
    Calls Tryd.prog 69 #[v, .int .i32 r] w fun e w' => ∃ v', e = .returned v' ∧ Buf B v' (l ++ Lib.encodeRune r) W0 w' := by
  refine (Any.utf8_AppendRune_row Tryd.lays242 infoByte B v l.length (Lib.byteCells l) r hr0 hr1 w hb.1 hlen hb.2.2).mono fun e w' => ?_
  rintro ⟨v', rfl, ho, o, hg⟩
  refine ⟨v', rfl, ?_⟩
  have h2 := (hb.alloc o).grown ho hg
  refine Buf.congr h2 ?_ ?_
  · rw [List.length_append]; simp [Lib.runeCells, Lib.encodeRune]
  · rw [← Lib.byteCells_encodeRune]; simp [Lib.byteCells]
end Go.Proofs.YtgmfggflbcegjaaDoor
