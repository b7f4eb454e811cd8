/-
  Joined: G10LJ.
-/
import Derived.BigQuiet
import Derived.Deep.AppendSrc
import Derived.Deep.CutRange
import Derived.Deep.QuietTactic
import Derived.SizedLaws
import Derived.SliceStrings
import Derived.Test.YthnpnkiomknkeaaDoorC13
import Derived.Test.YthnpnkiomknkeaaDoorC14
namespace Go.Proofs.YthnpnkiomknkeaaDoor.G10
open Go.ChangeShapes Go.WideShapes Go.RowKit Go.Deep
set_option linter.unusedVariables false
set_option linter.unusedSimpArgs false
section
variable {H : Type} {enc : TypeId × Value → H} {W : World} {base : Nat} {sp : Nat → Bool} {held : Bool}
variable {r : Reach} {b0 : Nat} {v : Value} {d : DataW H} {pl : List MemPlace}
end
def totS (l : List ByteArray) : Nat := (l.map (·.size)).sum
theorem jg_le : ∀ ss : List ByteArray, (jg ss).length ≤ totS ss + 3 * ss.length
  | [] => by simp [jg, totS]
  | s :: ss => by
    have h := jg_le ss
    have e : (jg (s :: ss)).length = (pdT s.data.toList).length + (jg ss).length := by unfold jg; simp
    rw [e, pdT_len, ← Lib.size_eq, List.length_cons]
    have : lck s.size ≤ 3 := by unfold lck; omega
    have e2 : totS (s :: ss) = s.size + totS ss := by unfold totS; simp
    omega
end Go.Proofs.YthnpnkiomknkeaaDoor.G10
