/-
  Unquote's machine.
-/
import Derived.Test.YtgmfggflbcegjaaDoorQuote
namespace Go.Proofs.YtgmfggflbcegjaaDoor
open Go.RowKit Txt
attribute [local go_sem] setCell_drewN cell?_ext frozen?_ext shape?_ext setCell_ext lt_1' ne_1' en_1' le_1' lt_2' ne_2' en_2' le_2' lt_3' ne_3' en_3' le_3' lt_4' ne_4' en_4' le_4' lt_5' ne_5' en_5' le_5' lt_6' ne_6' en_6' le_6' lt_7' ne_7' en_7' le_7' lt_8' ne_8' en_8' le_8' lt_9' ne_9' en_9' le_9' lt_10' ne_10' en_10' le_10' lt_11' ne_11' en_11' le_11' lt_12' ne_12' en_12' le_12'

def kOf (a : Act) : Nat := match a.tmps.getD 6 undef with | .int _ q => q.toNat | _ => 0
/-- how far a machine over a text of n bytes is from its end -/
def far (n l : Nat) (a : Act) : Nat := if l = 0 then 0 else if l = 2 then 1 else 2 * (n - kOf a) + 2
/-- what holds at each of the machine's labels -/
def JU (s : ByteArray) (X : Option (List UInt8)) (B : Nat) (w : World) (l : Nat) (a' : Act) (wr : World) : Prop :=
  ∃ (v : Value) (k : Nat) (acc : List UInt8) (u1 u5 u7 u8 u9 u10 u11 u12 u13 u14 u15 u16 u17 u18 u19 u20 u21 u22 u23 u24 u25 u26 u27 u28 u29 u30 u31 u32 u33 u34 u35 u36 u37 u38 u39 u40 u41 u42 u43 u44 u45 u46 u47 u48 u49 u50 u51 u52 u53 u54 u55 u56 u57 u58 u59 : Value), a' = { tmps := #[.string s, u1, .string { data := #[] }, .int .i64 0, v, u5, .int .i64 (k : Int), u7, u8, u9, u10, u11, u12, u13, u14, u15, u16, u17, u18, u19, u20, u21, u22, u23, u24, u25, u26, u27, u28, u29, u30, u31, u32, u33, u34, u35, u36, u37, u38, u39, u40, u41, u42, u43, u44, u45, u46, u47, u48, u49, u50, u51, u52, u53, u54, u55, u56, u57, u58, u59], defers := [] } ∧ (l ≠ 0 → k ≤ s.size) ∧ acc.length ≤ k ∧ Hid (Buf B v acc w wr) ∧ Hid (St s X l k acc)
end Go.Proofs.YtgmfggflbcegjaaDoor
