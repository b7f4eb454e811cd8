/-
  Joined: ShelfI.
-/
import Derived.Shelf.Slices.Turned
import Derived.Shelf.Strings.Trim
import Derived.Test.YthnpnkiomknkeaaDoorProg
namespace Go.Proofs.YthnpnkiomknkeaaDoor
open Go.Shelf
def lays108_ren : Go.Shelf.Ren := ⟨fun | 108 => 29 | n => n, fun | 28 => 23 | 3 => 3 | 0 => 0 | 4 => 4 | n => n, fun | n => n⟩
theorem lays108 : Go.Proofs.Lays.n108 Tryd.prog lays108_ren := {
  mixed := by kernel_rfl
  f108 := Tryd.func29.trans (congrArg some (by kernel_rfl))
  t0 := Tryd.underlying0
  a0 := Tryd.isAgg0
  z0 := Tryd.sizeOf0
  v0 := Tryd.zeroValue0
  t3 := Tryd.underlying3
  a3 := Tryd.isAgg3
  z3 := Tryd.sizeOf3
  v3 := Tryd.zeroValue3
  t4 := Tryd.underlying4
  a4 := Tryd.isAgg4
  z4 := Tryd.sizeOf4
  v4 := Tryd.zeroValue4
  t28 := Tryd.underlying23
  a28 := Tryd.isAgg23
  z28 := Tryd.sizeOf23
  v28 := Tryd.zeroValue23 }
end Go.Proofs.YthnpnkiomknkeaaDoor
