/-
  RectMoves, walked.
-/
import Derived.Test.YtaaajbpdnbhghaaR3Shift
import Derived.Test.YtaaajbpdnbhghaaR3RShift
import Derived.Test.YtaaajbpdnbhghaaR3Inset
import Derived.Test.YtaaajbpdnbhghaaR3RInset
import Derived.Test.YtaaajbpdnbhghaaR3Wakes
import Derived.Test.YtaaajbpdnbhghaaR3Box
namespace Go.Proofs.Ytaaajbpdnbhghaa
open Go.RowKit

set_option maxHeartbeats 1000000 in
theorem moves_walk (a0 a1 a2 a3 dx dy : Int) (w : World) :
    Calls Try.prog 5 #[.agg #[.int .i64 a0, .int .i64 a1, .int .i64 a2, .int .i64 a3], .int .i64 dx, .int .i64 dy] w fun e w' => e = .returned (.bool true) ∧ Below w.heap.size w w' := by
  have C1 := fun w => shift_any a0 a1 a2 a3 dx dy w
  have C2 := fun w => rshift_any a0 a1 a2 a3 dx dy w
  have C3 := fun w => inset_any a0 a1 a2 a3 dx w
  have C4 := fun w => rinset_any a0 a1 a2 a3 dx w
  have C5 := wakes3_any
  generalize tl (shiftQ a0 a1 a2 a3 dx dy) (a0 + dx) = m0 at C1 C2
  generalize tl (shiftQ a0 a1 a2 a3 dx dy) (a1 + dy) = m1 at C1 C2
  generalize tl (shiftQ a0 a1 a2 a3 dx dy) (a2 + dx) = m2 at C1 C2
  generalize tl (shiftQ a0 a1 a2 a3 dx dy) (a3 + dy) = m3 at C1 C2
  generalize shiftQ a0 a1 a2 a3 dx dy = q at C1 C2
  generalize tl (insetQ a0 a1 a2 a3 dx) (a0 + dx) = j0 at C3 C4
  generalize tl (insetQ a0 a1 a2 a3 dx) (a1 + dx) = j1 at C3 C4
  generalize tl (insetQ a0 a1 a2 a3 dx) (a2 - dx) = j2 at C3 C4
  generalize tl (insetQ a0 a1 a2 a3 dx) (a3 - dx) = j3 at C3 C4
  generalize insetQ a0 a1 a2 a3 dx = r at C3 C4
  have C1 := hide C1
  have C2 := hide C2
  have C3 := hide C3
  have C4 := hide C4
  have C5 := hide C5
  go_enter Try.func5, Try.ntmps5
  go_wp2_with fail
  refine (C1.out _).mono ?_; rintro e w1 ⟨rfl, hb⟩
  have A := hide ((box4_at (n := w.heap.size) (by simp) 23 a0 a1 a2 a3).below hb)
  have H := hide (below_in1 hb)
  clear hb
  obtain ⟨zA, cA0, cA1, cA2, cA3⟩ := A.out
  go_wp2_with fail
  refine (C2.out _).mono ?_; rintro e w2 ⟨rfl, hb⟩
  replace A := hide (((A.out).alloc _).below hb)
  have M := hide ((box4_at (n := w1.heap.size) (by simp) 23 m0 m1 m2 m3).below hb)
  replace H := hide (below_tr H.out (below_in1 hb))
  clear hb zA cA0 cA1 cA2 cA3
  obtain ⟨zA, cA0, cA1, cA2, cA3⟩ := A.out
  go_wp2_with fail
  refine (C3.out _).mono ?_; rintro e w3 ⟨rfl, hb⟩
  replace A := hide (((A.out).alloc _).below hb)
  replace M := hide (((M.out).alloc _).below hb)
  have N := hide ((box4_at (n := w2.heap.size) (by simp) 23 m0 m1 m2 m3).below hb)
  replace H := hide (below_tr H.out (below_in1 hb))
  clear hb zA cA0 cA1 cA2 cA3
  obtain ⟨zA, cA0, cA1, cA2, cA3⟩ := A.out
  go_wp2_with fail
  refine (C4.out _).mono ?_; rintro e w4 ⟨rfl, hb⟩
  replace A := hide (((A.out).alloc _).below hb)
  replace M := hide (((M.out).alloc _).below hb)
  replace N := hide (((N.out).alloc _).below hb)
  have J := hide ((box4_at (n := w3.heap.size) (by simp) 23 j0 j1 j2 j3).below hb)
  replace H := hide (below_tr H.out (below_in1 hb))
  clear hb zA cA0 cA1 cA2 cA3
  obtain ⟨zM, cM0, cM1, cM2, cM3⟩ := M.out
  obtain ⟨zN, cN0, cN1, cN2, cN3⟩ := N.out
  obtain ⟨zJ, cJ0, cJ1, cJ2, cJ3⟩ := J.out
  go_wp2_with fail
  refine (C5.out _).mono ?_; rintro e w5 ⟨rfl, hb⟩
  replace A := hide (((A.out).alloc _).below hb)
  replace M := hide (((M.out).alloc _).below hb)
  replace N := hide (((N.out).alloc _).below hb)
  replace J := hide (((J.out).alloc _).below hb)
  have K := hide ((box4_at (n := w4.heap.size) (by simp) 23 j0 j1 j2 j3).below hb)
  replace H := hide (below_tr H.out (below_in1 hb))
  clear hb zM cM0 cM1 cM2 cM3 zN cN0 cN1 cN2 cN3 zJ cJ0 cJ1 cJ2 cJ3
  go_wp2_with fail
  go_ret
  exact ⟨rfl, H.out⟩
end Go.Proofs.Ytaaajbpdnbhghaa
