/-
  Contracts of Quote and Unquote on both sides.
-/
import Derived.Test.YtonajmngchfjeaaDoorUnq
import Derived.Test.YtonajmngchfjeaaDoorBl
import Derived.Laws.OwnMore
namespace Go.Proofs.YtonajmngchfjeaaDoor
open Go.RowKit Txt
attribute [local go_sem] setCell_drewN cell?_ext frozen?_ext shape?_ext setCell_ext lt_1' ne_1' en_1' le_1' lt_2' ne_2' en_2' le_2' lt_3' ne_3' en_3' le_3' lt_4' ne_4' en_4' le_4' lt_5' ne_5' en_5' le_5' lt_6' ne_6' en_6' le_6' lt_7' ne_7' en_7' le_7' lt_8' ne_8' en_8' le_8' lt_9' ne_9' en_9' le_9' lt_10' ne_10' en_10' le_10' lt_11' ne_11' en_11' le_11' lt_12' ne_12' en_12' le_12'

theorem append_two {P : Program} {ops : Array Oper} {rest : List Oper} {o : Oper} {a : Act} {Q : Exit → Act → World → Prop} (hgd : o.guard = none) (s x : Operand) (t : TypeId)
    (ho : o.op = .call { callee := .builtin .append, args := #[s, x], argTypes := #[t, t] })
    (B : Nat) (e : TypeId) (i : TypeInfo) (ht : P.underlying t = some (.slice e)) (hi : P.info? e = some i) (hz : i.zero = some (.int .u8 0)) (hsize : i.size = 1) (hby : i.bytes = 1)
    (v : Value) (n : Nat) (xs : List Value) (hs : a.eval s = v) (W0 w0 : World) (c d : Int) (hb : Lib.OwnBuf B e v n xs W0 w0)
    (hx : a.eval x = .slice (some ⟨w0.heap.size, 0, none⟩) 2 2) (hlen : n + 2 ≤ 140737488355328)
    (h : ∀ v' w', Lib.OwnBuf B e v' (n + 2) (xs ++ [.int .u8 c, .int .u8 d]) W0 w' → wpList P ops Q rest (a.put o.dst v') w') : wpList P ops Q (o :: rest) a (w0.alloc (.cells #[.int .u8 c, .int .u8 d] e)) := by
  have hb' := hb.alloc (.cells #[.int .u8 c, .int .u8 d] e)
  refine wpList_append_ownF _ hgd s x t ho B e i (.int .u8 0) 1 1 ht hi hz hsize hby rfl (by decide) v n xs hs hb'.1 ⟨w0.heap.size, 0, none⟩ 2 2 [.int .u8 c, .int .u8 d] hx rfl ?_ ?_ (by unfold maxLen; omega) (by omega) hb'.2.2 ?_
  · intro j u hj
    match j, hj with
    | 0, hj => simp at hj; subst hj; simp [Addr.add]
    | 1, hj => simp at hj; subst hj; simp [Addr.add]
    | (j + 2), hj => simp at hj
  · intro u hu; simp at hu; rcases hu with rfl | rfl <;> rfl
  · intro v' w' ho' hg _
    exact h v' w' (hb'.grown ho' hg)
theorem Buf.lit {W0 W : World} (hb : Below W0.heap.size W0 W) (c : UInt8) (n : Int) (hn : n = (c.toNat : Int)) : Buf W0.heap.size (.slice (some ⟨W.heap.size, 0, none⟩) 1 1) [c] W0 (W.alloc (.cells #[.int .u8 n] 5)) := by
  subst hn
  have h := World.ownsRow_lit (w := W) (base := W0.heap.size) (e := 5) (size := 1) #[.int .u8 (c.toNat : Int)] 1 hb.size (by decide) rfl
  exact ⟨World.ownsRowF_of h, hb.alloc hb.size _, Nat.le_trans hb.size ((Below.refl 0 W).alloc (Nat.zero_le _) _).size⟩
theorem bytes_two (l : List UInt8) (c d : UInt8) : Lib.byteCells l ++ [.int .u8 (c.toNat : Int), .int .u8 (d.toNat : Int)] = Lib.byteCells (l ++ [c, d]) := by simp [Lib.byteCells]
/-- a text as it stands in an expression -/
def qL (l : List UInt8) : List UInt8 := 34 :: quoAll l
theorem qL_snoc (l : List UInt8) (c : UInt8) : qL (l ++ [c]) = qL l ++ quo c := by simp [qL, quoAll_snoc]
theorem qL_len (l : List UInt8) : (qL l).length ≤ 2 * l.length + 1 := by have := quoAll_len l; simp [qL]; omega
theorem quo_self {c : UInt8} (h : sgn c = 0) : quo c = [c] := if_pos h
theorem quo_two {c : UInt8} (h : ¬ sgn c = 0) : quo c = [92, sgn c] := if_neg h
def qText (s : ByteArray) : ByteArray := mkb (qL s.data.toList ++ [34])
/-- what the machine comes to -/
def unX (s : ByteArray) : Option (List UInt8) := if h : 2 ≤ s.size then if s[0] = 34 then unq false (s.data.toList.drop 1) [] else none else none
theorem unquote_any (s : ByteArray) (hs : s.size ≤ 140737488351232) (w : World) (hT : Tabs w) :
    Calls Tryd.prog 25 #[.string s] w fun e w' => e = .returned (if isText s = true then ansX (unX s) else .tuple #[.string { data := #[] }, .int .i64 2]) ∧ Below w.heap.size w w' := by
  have hV := valid_any s (by unfold maxLen; omega) w hT
  obtain ⟨X, hX⟩ : ∃ X, X = unX s := ⟨_, rfl⟩
  rw [← hX]
  have HQ := Lib.hid (unquote_machine s hs X hX)
  clear hX
  cases ht : isText s with
  | true =>
    rw [ht] at hV
    rw [if_pos rfl]
    have HV := Lib.hid hV
    clear hV ht hT
    cases X with
    | none =>
      have HQ2 := Lib.hid (show ∀ w, _ from fun w => HQ.out w)
      unfold ansX at HQ2 ⊢
      clear HQ
      go_enter Tryd.func25, Tryd.ntmps25
      go_wp2_with (first
        | (go_at_call 7; ((with_reducible refine (HV.out).mono ?_); rintro e w1 ⟨rfl, hb1⟩; obtain ⟨osA, dA, rfl⟩ := ext_of_below hb1; clear hb1))
        | (go_at_call 34; ((with_reducible refine (HQ2.out _).mono ?_); rintro e w1 ⟨rfl, hb1⟩; obtain ⟨osB, dB, rfl⟩ := ext_of_below hb1; clear hb1)))
      go_ret2
      exact ⟨rfl, by (repeat' (first | (with_reducible exact Below.refl _ _) | (with_reducible assumption) | (with_reducible refine Below.alloc ?_ ?_ _) | (with_reducible refine below_drewN ?_ _) | (with_reducible refine below_drew ?_) | (with_reducible refine below_ext ?_ ?_ _ _) | (with_reducible refine Below.setCell ?_ ?_ _) | (simp; done) | (simp; omega) | omega))⟩
    | some l =>
      have HQ2 := Lib.hid (show ∀ w, _ from fun w => HQ.out w)
      unfold ansX at HQ2 ⊢
      clear HQ
      go_enter Tryd.func25, Tryd.ntmps25
      go_wp2_with (first
        | (go_at_call 7; ((with_reducible refine (HV.out).mono ?_); rintro e w1 ⟨rfl, hb1⟩; obtain ⟨osA, dA, rfl⟩ := ext_of_below hb1; clear hb1))
        | (go_at_call 34; ((with_reducible refine (HQ2.out _).mono ?_); rintro e w1 ⟨rfl, hb1⟩; obtain ⟨osB, dB, rfl⟩ := ext_of_below hb1; clear hb1)))
      go_ret2
      exact ⟨rfl, by (repeat' (first | (with_reducible exact Below.refl _ _) | (with_reducible assumption) | (with_reducible refine Below.alloc ?_ ?_ _) | (with_reducible refine below_drewN ?_ _) | (with_reducible refine below_drew ?_) | (with_reducible refine below_ext ?_ ?_ _ _) | (with_reducible refine Below.setCell ?_ ?_ _) | (simp; done) | (simp; omega) | omega))⟩
  | false =>
    rw [ht] at hV
    rw [if_neg (by decide)]
    have HV := Lib.hid hV
    clear hV ht hT
    go_enter Tryd.func25, Tryd.ntmps25
    go_wp2_with (go_at_call 7; ((with_reducible refine (HV.out).mono ?_); rintro e w1 ⟨rfl, hb1⟩; obtain ⟨osA, dA, rfl⟩ := ext_of_below hb1; clear hb1))
    go_ret2
    exact ⟨rfl, by (repeat' (first | (with_reducible exact Below.refl _ _) | (with_reducible assumption) | (with_reducible refine Below.alloc ?_ ?_ _) | (with_reducible refine below_drewN ?_ _) | (with_reducible refine below_drew ?_) | (with_reducible refine below_ext ?_ ?_ _ _) | (with_reducible refine Below.setCell ?_ ?_ _) | (simp; done) | (simp; omega) | omega))⟩
end Go.Proofs.YtonajmngchfjeaaDoor
