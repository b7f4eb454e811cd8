/-
  What wakes (chapter 3's) answers: true.
-/
import Derived.Test.YtaaajbpdnbhghaaR3Of
namespace Go.Proofs.Ytaaajbpdnbhghaa
open Go.RowKit

theorem wakes3_any (w : World) : Calls Try.prog 17 #[] w fun e w' => e = .returned (.bool true) ∧ Below w.heap.size w w' := by
  have k1 : mayB (min 5 1) (min 0 9) (max 5 1) (max 0 9) = true := by decide
  have k2 : mayB 1 0 5 9 = true := by decide
  have C := of_any 5 0 1 9 w
  rw [k1] at C
  simp only [tl_t rfl] at C
  rw [show min (5 : Int) 1 = 1 by decide, show min (0 : Int) 9 = 0 by decide, show max (5 : Int) 1 = 5 by decide, show max (0 : Int) 9 = 9 by decide] at C
  have C := hide C
  clear k1
  go_enter Try.func17, Try.ntmps17
  go_wp2_with fail
  refine C.out.mono ?_; rintro e w1 ⟨rfl, hb⟩; obtain ⟨hc, hf⟩ := bcell hb
  go_wp2_with fail
  refine (may_any _ _ _ _ _).mono ?_; rintro e w2 ⟨rfl, hb2⟩
  go_wp2_with fail
  go_ret
  exact ⟨rfl, below_tr hb (below_in1 hb2)⟩
end Go.Proofs.Ytaaajbpdnbhghaa
