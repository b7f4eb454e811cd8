/-
  Joined: M9Drf.
-/
import Derived.BigQuiet
import Derived.Deep.AppendLies
import Derived.Deep.Draws
import Derived.Deep.QuietTactic
import Derived.Deep.RegionHeld3
import Derived.Deep.RegionWith
import Derived.Deep.Trees
import Derived.Laws.BitsLemmas
import Derived.Laws.BytesArg
import Derived.Laws.IdiomStrings
import Derived.Laws.OwnMore
import Derived.Lib.AppendStr
import Derived.Lib.AppendZeros
import Derived.Lib.MinMax
import Derived.Lib.Strings
import Derived.Outline
import Derived.OwnWalk
import Derived.Shelf.Strings.Trim
import Derived.Test.YthnpnkiomknkeaaDoorProg
import Derived.WalkKit
import Derived.WalkSmall
import Derived.Test.YthnpnkiomknkeaaDoorC00
import Derived.Test.YthnpnkiomknkeaaDoorC02
import Derived.Test.YthnpnkiomknkeaaDoorC04
import Derived.Test.YthnpnkiomknkeaaDoorC05
import Derived.Test.YthnpnkiomknkeaaDoorC06
import Derived.Test.YthnpnkiomknkeaaDoorC11
namespace Go.Proofs.YthnpnkiomknkeaaDoor
open Go.RowKit Go.Deep
set_option linter.unusedVariables false
theorem below_d {V a b x : World} (h : Below V.heap.size V a) (hx : Below b.heap.size b x) (e0 : b.os = a.os) (e1 : b.tape = a.tape) (e2 : b.output = a.output) (e3 : b.heap = a.heap) : Below V.heap.size V x :=
  h.trans ⟨hx.os.trans e0, hx.tape.trans e1, hx.output.trans e2, e3 ▸ hx.size, fun k hk => by rw [hx.block k (by rw [e3]; exact Nat.lt_of_lt_of_le hk h.size), e3]⟩
end Go.Proofs.YthnpnkiomknkeaaDoor
