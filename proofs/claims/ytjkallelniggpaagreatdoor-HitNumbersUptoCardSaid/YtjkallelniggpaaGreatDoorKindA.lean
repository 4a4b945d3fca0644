/-
  Contracts of package kind and of the document's kinds: form, what lies under what, the join.
-/
import Derived.Test.YtjkallelniggpaaGreatDoorBb
namespace Go.Proofs.YtjkallelniggpaaGreatDoor
open Go.RowKit
attribute [local go_sem] setCell_drewN cell?_ext frozen?_ext shape?_ext setCell_ext lt_1' ne_1' en_1' le_1' lt_2' ne_2' en_2' le_2' lt_3' ne_3' en_3' le_3' lt_4' ne_4' en_4' le_4' lt_5' ne_5' en_5' le_5' lt_6' ne_6' en_6' le_6' lt_7' ne_7' en_7' le_7' lt_8' ne_8' en_8' le_8' lt_9' ne_9' en_9' le_9' lt_10' ne_10' en_10' le_10' lt_11' ne_11' en_11' le_11' lt_12' ne_12' en_12' le_12'

/-- a type as a value -/
abbrev T (k o : Int) : Value := .agg #[.int .i64 k, .int .i64 o]
/-- is it a type? -/
def tform (k o : Int) : Bool := if k = 5 then decide (0 ≤ o) && decide (o ≤ 4) else decide (0 ≤ k) && (decide (k ≤ 4) && decide (o = 0))
/-- what lies under what, as the program asks it -/
def unB (k1 o1 k2 o2 : Int) : Bool := ((k1 == k2) && (o1 == o2)) || (((k2 == 0) && (o2 == 0)) || ((k1 == 5) && ((k2 == 5) && (o2 == 0))))
end Go.Proofs.YtjkallelniggpaaGreatDoor
