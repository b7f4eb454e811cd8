/-
  Joined: Lst.
-/
import Derived.Deep.Draws
import Derived.Outline
import Derived.Test.YtpmdekhjodhdmaaDoorProg
import Derived.WalkKit
import Derived.WalkSmall
import Derived.Test.YtpmdekhjodhdmaaDoorP01
namespace Go.Proofs.YtpmdekhjodhdmaaDoor
open Go.RowKit
def Lst (w : World) (a : Option Addr) (zs : List Int) : Prop :=
  zs = [] ∨ ∃ b off, a = some ⟨b, off, none⟩ ∧ b < w.heap.size ∧ ∀ i, i < zs.length → w.cell? ⟨b, off + i, none⟩ = some (.int .i64 (zs.getD i 0))
theorem below_drewN' (w : World) (n : Nat) : Below w.heap.size w (w.drewN n) := below_drewN (Below.refl _ _) n
end Go.Proofs.YtpmdekhjodhdmaaDoor
