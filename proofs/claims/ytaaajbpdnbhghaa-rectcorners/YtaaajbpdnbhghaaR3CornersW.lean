/-
  RectCorners, walked.
-/
import Derived.Test.YtaaajbpdnbhghaaR3Of
import Derived.Test.YtaaajbpdnbhghaaR3ROf
import Derived.Test.YtaaajbpdnbhghaaR3Wakes
import Derived.Test.YtaaajbpdnbhghaaR3Box
import Derived.Test.YtaaajbpdnbhghaaR3Box2
namespace Go.Proofs.Ytaaajbpdnbhghaa
open Go.RowKit

set_option maxHeartbeats 1000000 in
theorem corners_walk (a0 a1 b0 b1 : Int) (w : World) :
    Calls Try.prog 4 #[.agg #[.int .i64 a0, .int .i64 a1], .agg #[.int .i64 b0, .int .i64 b1]] w fun e w' => e = .returned (.bool true) ∧ Below w.heap.size w w' := by
  have C1 := fun w => of_any a0 a1 b0 b1 w
  have C2 := fun w => rof_any a0 a1 b0 b1 w
  have C3 := fun w => of_any b0 a1 a0 b1 w
  rw [Int.min_comm b0 a0, Int.max_comm b0 a0] at C3
  generalize tl (mayB (min a0 b0) (min a1 b1) (max a0 b0) (max a1 b1)) (min a0 b0) = m0 at C1 C2 C3
  generalize tl (mayB (min a0 b0) (min a1 b1) (max a0 b0) (max a1 b1)) (min a1 b1) = m1 at C1 C2 C3
  generalize tl (mayB (min a0 b0) (min a1 b1) (max a0 b0) (max a1 b1)) (max a0 b0) = m2 at C1 C2 C3
  generalize tl (mayB (min a0 b0) (min a1 b1) (max a0 b0) (max a1 b1)) (max a1 b1) = m3 at C1 C2 C3
  generalize mayB (min a0 b0) (min a1 b1) (max a0 b0) (max a1 b1) = q at C1 C2 C3
  have C1 := hide C1
  have C2 := hide C2
  have C3 := hide C3
  go_enter Try.func4, Try.ntmps4
  go_wp2_with fail
  refine (C1.out _).mono ?_; rintro e w1 ⟨rfl, hb⟩
  have A := hide (((box2_at rfl 29 a0 a1).alloc _).below hb)
  have B := hide ((box2_at (n := w.heap.size + 1) (by simp) 29 b0 b1).below hb)
  have H := hide (below_in2 hb)
  clear hb
  obtain ⟨zA, cA0, cA1⟩ := A.out
  obtain ⟨zB, cB0, cB1⟩ := B.out
  go_wp2_with fail
  refine (C2.out _).mono ?_; rintro e w2 ⟨rfl, hb⟩
  replace A := hide ((A.out.alloc _).below hb)
  replace B := hide ((B.out.alloc _).below hb)
  have M := hide ((box4_new w1 23 m0 m1 m2 m3).below hb)
  replace H := hide (below_tr H.out (below_in1 hb))
  clear hb zA zB cA0 cA1 cB0 cB1
  obtain ⟨zA, cA0, cA1⟩ := A.out
  obtain ⟨zB, cB0, cB1⟩ := B.out
  go_wp2_with fail
  refine (C3.out _).mono ?_; rintro e w3 ⟨rfl, hb⟩
  replace M := hide ((M.out.alloc _).below hb)
  have N := hide ((box4_new w2 23 m0 m1 m2 m3).below hb)
  replace H := hide (below_tr H.out (below_in1 hb))
  clear hb zA zB cA0 cA1 cB0 cB1
  obtain ⟨zM, cM0, cM1, cM2, cM3⟩ := M.out
  obtain ⟨zN, cN0, cN1, cN2, cN3⟩ := N.out
  clear A B M N
  go_wp2_with fail
  refine (wakes3_any _).mono ?_; rintro e w4 ⟨rfl, hb⟩
  replace H := hide (below_tr H.out (below_in1 hb))
  go_wp2
  go_ret
  exact ⟨rfl, H.out⟩
end Go.Proofs.Ytaaajbpdnbhghaa
