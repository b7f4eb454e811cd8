/-
  What digits.overHalf answers.
-/
import Derived.Test.YtdmfmiejjghfnaaDoorD2Small
import Derived.Laws.Cover1
namespace Go.Proofs.YtdmfmiejjghfnaaDoor
open Go.RowKit

theorem over_core (s t : ByteArray) (hc b1 b2 : Bool) (w : World) (cT : ∀ w, Calls Tryd.prog 46 #[.string s, .string ⟨#[48]⟩] w fun e w' => e = .returned (.string t) ∧ w' = w)
    (g1 : Op.bytesLess t.toList [53] = b1) (g2 : (t.toList == [53]) = b2) :
    Calls Tryd.prog 38 #[.string s, .bool hc] w fun e w' => e = .returned (.bool (!(b1 || b2) || (hc && b2))) ∧ w' = w := by
  have CT := hide cT
  have g3 : t.toList = [53] ↔ b2 = true := by rw [← g2]; simp
  clear cT
  cases b1 <;> cases b2 <;> cases hc
  all_goals
    simp only [Bool.false_eq_true, iff_false, iff_true] at g3
    go_enter Tryd.func38, Tryd.ntmps38
    go_wp2_with (go_at_call 46; refine (CT.out _).mono ?_; rintro e w' ⟨rfl, rfl⟩)
    go_ret
    exact ⟨rfl, rfl⟩
end Go.Proofs.YtdmfmiejjghfnaaDoor
