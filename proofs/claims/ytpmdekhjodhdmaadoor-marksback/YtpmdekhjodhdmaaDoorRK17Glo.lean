/-
  The length of the library's longest piece is a number: off the world's shape.
-/
import Derived.Test.YtpmdekhjodhdmaaDoorR08
import Derived.Test.YtpmdekhjodhdmaaDoorR13
namespace Go.Proofs.YtpmdekhjodhdmaaDoor.K17
open Go.RowKit Go.Proofs.YtpmdekhjodhdmaaDoor Go.Lib
theorem mx_of {W : World} (hs : W.ShapedOpen Tryd.prog) : MX W := by
  obtain ⟨m, h⟩ := laysM145.s1_3 W hs
  exact ⟨m, h⟩
end Go.Proofs.YtpmdekhjodhdmaaDoor.K17
