/-
  What the law's own in answers: whether a point lies in a rectangle.
-/
import Derived.Test.YtaaajbpdnbhghaaR3B
namespace Go.Proofs.Ytaaajbpdnbhghaa
open Go.RowKit

def ptB (a0 a1 a2 a3 x y : Int) : Bool := decide (a0 ≤ x) && decide (x ≤ a2) && decide (a1 ≤ y) && decide (y ≤ a3)
theorem pt_any (a0 a1 a2 a3 x y : Int) (w : World) :
    Calls Try.prog 26 #[.agg #[.int .i64 a0, .int .i64 a1, .int .i64 a2, .int .i64 a3], .int .i64 x, .int .i64 y] w fun e w' => e = .returned (.bool (ptB a0 a1 a2 a3 x y)) ∧ Below w.heap.size w w' := by
  have hB : Below w.heap.size w (w.alloc (.cells #[.int .i64 a0, .int .i64 a1, .int .i64 a2, .int .i64 a3] 23)) := (Below.refl _ _).alloc (Nat.le_refl _) _
  have hB := hide hB
  cases h0 : decide (a0 ≤ x)
  · rw [show ptB a0 a1 a2 a3 x y = false by simp only [ptB, h0, Bool.false_and]]
    have g0 : ¬ a0 ≤ x := by simpa using h0
    clear h0
    go_enter Try.func26, Try.ntmps26
    go_wp2
    go_ret
    exact ⟨rfl, hB.out⟩
  replace h0 : a0 ≤ x := by simpa using h0
  cases h1 : decide (x ≤ a2)
  · rw [show ptB a0 a1 a2 a3 x y = false by simp only [ptB, h1, Bool.and_false, Bool.false_and]]
    have g1 : ¬ x ≤ a2 := by simpa using h1
    clear h1
    go_enter Try.func26, Try.ntmps26
    go_wp2
    go_ret
    exact ⟨rfl, hB.out⟩
  replace h1 : x ≤ a2 := by simpa using h1
  cases h2 : decide (a1 ≤ y)
  · rw [show ptB a0 a1 a2 a3 x y = false by simp only [ptB, h2, Bool.and_false, Bool.false_and]]
    have g2 : ¬ a1 ≤ y := by simpa using h2
    clear h2
    go_enter Try.func26, Try.ntmps26
    go_wp2
    go_ret
    exact ⟨rfl, hB.out⟩
  replace h2 : a1 ≤ y := by simpa using h2
  cases h3 : decide (y ≤ a3)
  · rw [show ptB a0 a1 a2 a3 x y = false by simp only [ptB, h3, Bool.and_false]]
    have g3 : ¬ y ≤ a3 := by simpa using h3
    clear h3
    go_enter Try.func26, Try.ntmps26
    go_wp2
    go_ret
    exact ⟨rfl, hB.out⟩
  replace h3 : y ≤ a3 := by simpa using h3
  rw [show ptB a0 a1 a2 a3 x y = true by simp [ptB, h0, h1, h2, h3]]
  go_enter Try.func26, Try.ntmps26
  go_wp2
  go_ret
  exact ⟨rfl, hB.out⟩
end Go.Proofs.Ytaaajbpdnbhghaa
