/-
  Which numbers are lengths.
-/
import Derived.Test.YthhhepbflggojaaDoorProg
import Derived.Test.YthhhepbflggojaaDoorHide
import Derived.WalkKit
import Derived.Outline
namespace Go.Proofs.YthhhepbflggojaaDoor
open Go.RowKit

def inB (x : Int) : Bool := decide (-1099511627776 ≤ x ∧ x ≤ 1099511627776)
def tolV (x : Int) : Int := if inB x = true then x else 0
theorem inB_t {x : Int} (h1 : -1099511627776 ≤ x) (h2 : x ≤ 1099511627776) : inB x = true := by unfold inB; simp [h1, h2]
theorem inB_f {x : Int} (h : ¬ (-1099511627776 ≤ x ∧ x ≤ 1099511627776)) : inB x = false := by unfold inB; simp only [decide_eq_false_iff_not]; exact h
theorem inB_bd {x : Int} (h : inB x = true) : -1099511627776 ≤ x ∧ x ≤ 1099511627776 := by unfold inB at h; simpa using h
theorem tolV_t {x : Int} (h : inB x = true) : tolV x = x := by unfold tolV; rw [if_pos h]
theorem tolV_f {x : Int} (h : inB x = false) : tolV x = 0 := by unfold tolV; rw [if_neg (by simp [h])]
end Go.Proofs.YthhhepbflggojaaDoor
