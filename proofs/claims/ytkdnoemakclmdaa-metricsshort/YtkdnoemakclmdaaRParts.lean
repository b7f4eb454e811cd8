/-
  What the reference's parts answer, of any ints.
-/
import Derived.Test.YtkdnoemakclmdaaRBase
import Derived.Test.YtkdnoemakclmdaaRDiv
import Derived.Test.YtkdnoemakclmdaaScale
import Derived.WalkKit
import Derived.Outline
namespace Go.Proofs.Ytkdnoemakclmdaa
open Go.RowKit

/- parts: below 0 or not; the whole part, 2^40 + 1 if it is greater; the rest -/
def ptB (a b : Int) : Bool := !(signB a b) && decide (mag a b ≠ 0)
def ptQ (a b : Int) (k : Nat) : Int := if mag a b / k ≤ 1099511627776 then ((mag a b / k : Nat) : Int) else 1099511627777

end Go.Proofs.Ytkdnoemakclmdaa
