/-
  What the reference's Find and Good answer (made by c11rf.py).
-/
import Derived.Test.YthgpchjkeidilaaC11Fi
namespace Go.Proofs.Ythgpchjkeidilaa
open Go.RowKit Go.Deep
set_option linter.unusedVariables false

end Go.Proofs.Ythgpchjkeidilaa
