/-
  Joined: M9Un.
-/
import Derived.BigQuiet
import Derived.ChangeAlike
import Derived.Deep.QuietTactic
import Derived.Lib.BitFns
import Derived.Lib.Small
import Derived.Lib.Walk
import Derived.Outline
import Derived.RegionTactic
import Derived.Test.YthnpnkiomknkeaaDoorProg
import Derived.WalkKit
import Derived.Test.YthnpnkiomknkeaaDoorC02
import Derived.Test.YthnpnkiomknkeaaDoorC03
import Derived.Test.YthnpnkiomknkeaaDoorC19
namespace Go.Proofs.YthnpnkiomknkeaaDoor
open Go.RowKit Go.Deep
set_option linter.unusedVariables false
def i64 (x : Int) : Prop := -9223372036854775808 ≤ x ∧ x ≤ 9223372036854775807
end Go.Proofs.YthnpnkiomknkeaaDoor
