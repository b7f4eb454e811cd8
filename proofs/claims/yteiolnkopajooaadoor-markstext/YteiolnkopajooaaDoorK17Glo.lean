/-
  The length of the library's longest piece is a number: off the world's shape.
-/
import Derived.Test.YteiolnkopajooaaDoorK17O
import Derived.Test.YteiolnkopajooaaDoorShelfM
namespace Go.Proofs.YteiolnkopajooaaDoor.K17
open Go.RowKit Go.Proofs.YteiolnkopajooaaDoor Go.Lib
theorem mx_of {W : World} (hs : W.ShapedOpen Tryd.prog) : MX W := by
  obtain ⟨m, h⟩ := laysM145.s1_3 W hs
  exact ⟨m, h⟩
end Go.Proofs.YteiolnkopajooaaDoor.K17
