/-
  What the small functions of the reference answer: In, told, Add, Sub.
-/
import Derived.Test.YtkdnoemakclmdaaBase
import Derived.WalkKit
import Derived.Outline
namespace Go.Proofs.Ytkdnoemakclmdaa
open Go.RowKit

end Go.Proofs.Ytkdnoemakclmdaa
