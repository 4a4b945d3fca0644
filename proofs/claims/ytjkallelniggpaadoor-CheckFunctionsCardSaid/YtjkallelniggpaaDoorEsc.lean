/-
  Contracts of chars.Escape, Name and Word, and the statements' own first question of package chars.
-/
import Derived.Test.YtjkallelniggpaaDoorValid
import Derived.Lib.BufSteps
import Derived.Lib.UnsafeStr
import Derived.Laws.BytesArg
import Derived.Laws.IdiomStrings
import Derived.OwnWalk
namespace Go.Proofs.YtjkallelniggpaaDoor
open Go.RowKit Txt
attribute [local go_sem] setCell_drewN cell?_ext frozen?_ext shape?_ext setCell_ext lt_1' ne_1' en_1' le_1' lt_2' ne_2' en_2' le_2' lt_3' ne_3' en_3' le_3' lt_4' ne_4' en_4' le_4' lt_5' ne_5' en_5' le_5' lt_6' ne_6' en_6' le_6' lt_7' ne_7' en_7' le_7' lt_8' ne_8' en_8' le_8' lt_9' ne_9' en_9' le_9' lt_10' ne_10' en_10' le_10' lt_11' ne_11' en_11' le_11' lt_12' ne_12' en_12' le_12'

/-- a text out of its bytes -/
abbrev mkb (l : List UInt8) : ByteArray := ⟨l.toArray⟩
theorem str_tuple {a b : ByteArray} {v : Value} (h : a = b) : Ending.returned (.tuple #[.string a, v]) = .returned (.tuple #[.string b, v]) := by rw [h]
theorem take_snoc (s : ByteArray) (k : Nat) (h : k < s.size) : s.data.toList.take (k + 1) = s.data.toList.take k ++ [s[k]] := by
  rw [List.take_succ_eq_append_getElem (by simpa using h)]; rfl
theorem infoByte : (Tryd.prog.info? 5).map (fun i => (i.zero, i.size, i.bytes)) = some (some (.int .u8 0), 1, 1) := by kernel_rfl
/-- the slice v holds the bytes l in a row of the call's own -/
abbrev Buf (B : Nat) (v : Value) (l : List UInt8) (W0 w : World) : Prop := Lib.OwnBuf B 5 v l.length (Lib.byteCells l) W0 w
theorem Buf.nil (W0 : World) {w : World} (hb : Below W0.heap.size W0 w) : Buf W0.heap.size (.slice none 0 0) [] W0 w :=
  ⟨World.ownsRowF_of (World.ownsRow_nil _ _ _ _), hb, hb.size⟩
theorem Buf.congr {B : Nat} {v : Value} {m : List UInt8} {W0 w : World} {n : Nat} {xs : List Value} (h : Lib.OwnBuf B 5 v n xs W0 w) (hn : n = m.length) (hx : xs = Lib.byteCells m) : Buf B v m W0 w := by
  subst hn hx; exact h
theorem bytes_snoc (l : List UInt8) (c : UInt8) : Lib.byteCells l ++ [.int .u8 (c.toNat : Int)] = Lib.byteCells (l ++ [c]) := by simp [Lib.byteCells]
theorem bytes_app (l m : List UInt8) : Lib.byteCells l ++ Lib.strCells (mkb m) = Lib.byteCells (l ++ m) := by simp [Lib.byteCells, Lib.strCells]
theorem Buf.conv {B : Nat} {v : Value} {l : List UInt8} {W0 w : World} (h : Buf B v l W0 w) : (convert 138 9 v).run Tryd.prog w = .ok (.string (mkb l)) w := by
  have hh := h
  obtain ⟨⟨hlen, hv⟩, _, _⟩ := hh
  rcases hv with ⟨rfl, h0⟩ | ⟨g, cap, cur, fz, rfl, _⟩
  · have : l = [] := List.eq_nil_of_length_eq_zero h0
    subst this
    exact run_convert_bytes_nil w 138 5 Tryd.underlying138 Tryd.underlying5 0 0 9 Tryd.underlying9
  · exact run_convert_bytes_back w 138 9 5 ⟨g, 0, none⟩ cap l Tryd.underlying138 Tryd.underlying5 Tryd.underlying9 (fun j hj => h.1.cells (g := g) (by simp [Value.ownBlock]) j _ (by simp [Lib.byteCells, hj]))
/-- what Escape puts in place of a byte; nothing if the byte stays -/
def rf (c : UInt8) (attr : Bool) : List UInt8 :=
  if c = 38 then [38, 97, 109, 112, 59] else if c = 60 then [38, 108, 116, 59] else if c = 62 then [38, 103, 116, 59] else if c = 13 then [38, 35, 49, 51, 59]
  else if attr = false then [] else if c = 34 then [38, 113, 117, 111, 116, 59] else if c = 9 then [38, 35, 57, 59] else if c = 10 then [38, 35, 49, 48, 59] else []
theorem rf_len (c : UInt8) (attr : Bool) : (rf c attr).length ≤ 6 := by
  unfold rf
  repeat' split
  all_goals decide
/-- a byte as it is escaped -/
def esc (attr : Bool) (c : UInt8) : List UInt8 := if rf c attr = [] then [c] else rf c attr
theorem esc_len (c : UInt8) (attr : Bool) : (esc attr c).length ≤ 6 := by
  unfold esc; split
  · simp
  · exact rf_len c attr
def escAll (attr : Bool) (l : List UInt8) : List UInt8 := l.flatMap (esc attr)
theorem escAll_snoc (attr : Bool) (l : List UInt8) (c : UInt8) : escAll attr (l ++ [c]) = escAll attr l ++ esc attr c := by simp [escAll]
theorem escAll_len (attr : Bool) : ∀ l : List UInt8, (escAll attr l).length ≤ 6 * l.length
  | [] => by simp [escAll]
  | c :: l => by
    have := escAll_len attr l
    have := esc_len c attr
    simp only [escAll, List.flatMap_cons, List.length_append, List.length_cons] at *
    omega
theorem u8_ne {c k : UInt8} (h : ¬ c = k) : ((c.toNat : Int) == (k.toNat : Int)) = false := by
  simp only [beq_eq_false_iff_ne, ne_eq]
  intro e
  exact h (UInt8.toNat_inj.1 (by omega))
theorem esc_self {c : UInt8} {attr : Bool} (h : rf c attr = []) : esc attr c = [c] := if_pos h
theorem esc_ref {c : UInt8} {attr : Bool} (h : ¬ rf c attr = []) : esc attr c = rf c attr := if_neg h
end Go.Proofs.YtjkallelniggpaaDoor
