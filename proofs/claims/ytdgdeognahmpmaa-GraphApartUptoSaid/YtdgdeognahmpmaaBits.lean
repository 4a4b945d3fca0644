/-
  Contracts of math/bits, over this program's own numbers: Add64, Sub64, Mul64 answer the words of sum, difference and product.
-/
import Derived.Test.YtdgdeognahmpmaaRows
import Derived.Test.YtdgdeognahmpmaaWord
import Derived.Test.YtdgdeognahmpmaaExt
import Derived.WalkKit
import Derived.Handy
import Derived.Shelf.Spec.BitsCarry
import Derived.Lib.Mul64
import Derived.Shelf.Bits.Mul64
import Derived.Deep.RegionWith
import Derived.Deep.RegionHeld3
import Derived.Deep.QuietTactic
import Derived.BigQuiet
import Derived.Deep.Draws
import Derived.Lib.Hide
import Derived.WalkSpells
import Derived.Deep.DeepFit
namespace Go.Proofs.Ytdgdeognahmpmaa
open Go.RowKit Word

/-- a number of two words, of four words, as values -/
abbrev W (n : Nat) : Value := .agg #[.int .u64 (hi n : Int), .int .u64 (lo n : Int)]
abbrev L (n : Nat) : Value := .agg #[.int .u64 (w0 n : Int), .int .u64 (w1 n : Int), .int .u64 (w2 n : Int), .int .u64 (w3 n : Int)]



theorem maskN (a : Nat) (ha : a < 18446744073709551616) : bits .and .u64 (a : Int) 4294967295 = ((a % 4294967296 : Nat) : Int) := by
  have h := bits_and_u64_nat a 4294967295 ha (by omega)
  have e : a &&& 4294967295 = a % 4294967296 := Nat.and_two_pow_sub_one_eq_mod a 32
  rw [e] at h
  exact h
theorem divN (a : Nat) : (a : Int) / 4294967296 = ((a / 4294967296 : Nat) : Int) := by omega
theorem mulN (a b : Nat) : (a : Int) * (b : Int) = ((a * b : Nat) : Int) := (Int.natCast_mul a b).symm
theorem addN (a b : Nat) : (a : Int) + (b : Int) = ((a + b : Nat) : Int) := (Int.natCast_add a b).symm
theorem wrapN (a : Nat) (ha : a < 18446744073709551616) : IntKind.u64.wrap (a : Int) = (a : Int) := by rw [IntKind.wrap_u64]; omega
theorem wrapM (a : Nat) : IntKind.u64.wrap (a : Int) = ((a % 18446744073709551616 : Nat) : Int) := by rw [IntKind.wrap_u64]; omega

end Go.Proofs.Ytdgdeognahmpmaa
