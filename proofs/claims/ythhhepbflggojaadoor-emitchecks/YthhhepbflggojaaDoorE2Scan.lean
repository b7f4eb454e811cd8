/-
  What the reference's digits (chapter 2) answers: how many digits stand from a place on.
-/
import Derived.Test.YthhhepbflggojaaDoorProg
import Derived.Test.YthhhepbflggojaaDoorHide
import Derived.WalkKit
import Derived.Outline
namespace Go.Proofs.YthhhepbflggojaaDoor.D2
set_option maxRecDepth 8000
open Go.RowKit

def isDig (c : UInt8) : Bool := decide (48 ≤ c.toNat ∧ c.toNat ≤ 57)
/- how many digits a list opens with -/
def dgc : List UInt8 → Nat
  | [] => 0
  | c :: l => if isDig c then 1 + dgc l else 0
theorem dgc_le (l : List UInt8) : dgc l ≤ l.length := by
  induction l with
  | nil => simp [dgc]
  | cons c l ih => unfold dgc; split <;> simp <;> omega
theorem drop_at (s : ByteArray) (k : Nat) (h : k < s.size) : s.data.toList.drop k = s[k] :: s.data.toList.drop (k + 1) := by
  rw [List.drop_eq_getElem_cons (by simpa using h)]
  rfl
theorem size_list (s : ByteArray) : s.data.toList.length = s.size := by simp

end Go.Proofs.YthhhepbflggojaaDoor.D2
