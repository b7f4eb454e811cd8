/-
  Joined: Lst.
-/
import Derived.Deep.Draws
import Derived.Outline
import Derived.Test.YtpmdekhjodhdmaaDoorProg
import Derived.WalkKit
import Derived.WalkSmall
import Derived.Test.YtpmdekhjodhdmaaDoorR01
namespace Go.Proofs.YtpmdekhjodhdmaaDoor
open Go.RowKit
theorem below_drewN' (w : World) (n : Nat) : Below w.heap.size w (w.drewN n) := below_drewN (Below.refl _ _) n
end Go.Proofs.YtpmdekhjodhdmaaDoor
