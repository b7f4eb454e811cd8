/-
  What the reference's size and product answer.
-/
import Derived.Test.YtkdnoemakclmdaaBase
import Derived.Test.YtkdnoemakclmdaaMul
import Derived.WalkKit
import Derived.Outline
namespace Go.Proofs.Ytkdnoemakclmdaa
open Go.RowKit

theorem orN (k l : Nat) (hl : l < 4294967296) : bits .or .u64 (IntKind.u64.wrap ((k : Int) * 4294967296)) (l : Int) = ((k * 4294967296 % 18446744073709551616 + l : Nat) : Int) := by
  have e : IntKind.u64.wrap ((k : Int) * 4294967296) = ((k * 4294967296 % 18446744073709551616 : Nat) : Int) := by rw [← wrapM]; simp
  have e2 : k * 4294967296 % 18446744073709551616 = 2 ^ 32 * (k % 4294967296) := by omega
  rw [e, bits_or_u64_nat _ _ (by omega) (by omega), e2, Nat.two_pow_add_eq_or_of_lt (i := 32) hl]

end Go.Proofs.Ytkdnoemakclmdaa
