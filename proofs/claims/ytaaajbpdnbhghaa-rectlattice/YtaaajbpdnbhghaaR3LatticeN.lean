/-
  RectLattice, walked.
-/
import Derived.Test.YtaaajbpdnbhghaaR3Meet
import Derived.Test.YtaaajbpdnbhghaaR3Join
import Derived.Test.YtaaajbpdnbhghaaR3Holds
import Derived.Test.YtaaajbpdnbhghaaR3RMay
import Derived.Test.YtaaajbpdnbhghaaR3Wakes
import Derived.Test.YtaaajbpdnbhghaaR3Box
import Derived.Test.YtaaajbpdnbhghaaR3Math
namespace Go.Proofs.Ytaaajbpdnbhghaa
open Go.RowKit

set_option maxHeartbeats 2000000 in
theorem lat_na (a0 a1 a2 a3 b0 b1 b2 b3 : Int) (w : World) (ha : mayB a0 a1 a2 a3 = false) :
    Calls Try.prog 8 #[.agg #[.int .i64 a0, .int .i64 a1, .int .i64 a2, .int .i64 a3], .agg #[.int .i64 b0, .int .i64 b1, .int .i64 b2, .int .i64 b3]] w fun e w' => e = .returned (.bool true) ∧ Below w.heap.size w w' := by
  have C0 := rmay_any a0 a1 a2 a3
  have C9 := wakes3_any
  have C5 := holds_any a0 a1 a2 a3 b0 b1 b2 b3
  rw [ha] at C0
  rw [holdsQ_f (Or.inl ha)] at C5
  have C0 := hide C0
  have C5 := hide C5
  have C9 := hide C9
  go_enter Try.func8, Try.ntmps8
  go_wp2_with fail
  refine (C0.out _).mono ?_; rintro e w1 ⟨rfl, hb⟩
  have A := hide (((box4_at (n := w.heap.size) (by simp) 23 a0 a1 a2 a3).alloc _).below hb)
  have B := hide ((box4_at (n := w.heap.size + 1) (by simp) 23 b0 b1 b2 b3).below hb)
  have H := hide (below_in2 hb)
  clear hb
  obtain ⟨zA, cA0, cA1, cA2, cA3⟩ := A.out
  obtain ⟨zB, cB0, cB1, cB2, cB3⟩ := B.out
  go_wp2_with fail
  refine (C5.out _).mono ?_; rintro e w2 ⟨rfl, hb⟩
  replace A := hide ((A.out).below hb)
  replace B := hide ((B.out).below hb)
  replace H := hide (below_tr H.out (hb))
  clear hb zA cA0 cA1 cA2 cA3 zB cB0 cB1 cB2 cB3
  go_wp2_with fail
  refine (C9.out _).mono ?_; rintro e w3 ⟨rfl, hb⟩
  replace A := hide ((A.out).below hb)
  replace B := hide ((B.out).below hb)
  replace H := hide (below_tr H.out (hb))
  clear hb
  go_wp2_with fail
  go_ret
  exact ⟨rfl, H.out⟩
set_option maxHeartbeats 2000000 in
theorem lat_nb (a0 a1 a2 a3 b0 b1 b2 b3 : Int) (w : World) (ha : mayB a0 a1 a2 a3 = true) (hb : mayB b0 b1 b2 b3 = false) :
    Calls Try.prog 8 #[.agg #[.int .i64 a0, .int .i64 a1, .int .i64 a2, .int .i64 a3], .agg #[.int .i64 b0, .int .i64 b1, .int .i64 b2, .int .i64 b3]] w fun e w' => e = .returned (.bool true) ∧ Below w.heap.size w w' := by
  have C0 := rmay_any a0 a1 a2 a3
  have C9 := wakes3_any
  have C5 := holds_any a0 a1 a2 a3 b0 b1 b2 b3
  have C1 := rmay_any b0 b1 b2 b3
  rw [ha] at C0
  rw [hb] at C1
  rw [holdsQ_f (Or.inr hb)] at C5
  clear hb ha
  have C0 := hide C0
  have C1 := hide C1
  have C5 := hide C5
  have C9 := hide C9
  go_enter Try.func8, Try.ntmps8
  go_wp2_with fail
  refine (C0.out _).mono ?_; rintro e w1 ⟨rfl, hb⟩
  have A := hide (((box4_at (n := w.heap.size) (by simp) 23 a0 a1 a2 a3).alloc _).below hb)
  have B := hide ((box4_at (n := w.heap.size + 1) (by simp) 23 b0 b1 b2 b3).below hb)
  have H := hide (below_in2 hb)
  clear hb
  obtain ⟨zA, cA0, cA1, cA2, cA3⟩ := A.out
  obtain ⟨zB, cB0, cB1, cB2, cB3⟩ := B.out
  go_wp2_with fail
  refine (C1.out _).mono ?_; rintro e w2 ⟨rfl, hb⟩
  replace A := hide ((A.out).below hb)
  replace B := hide ((B.out).below hb)
  replace H := hide (below_tr H.out (hb))
  clear hb zA cA0 cA1 cA2 cA3 zB cB0 cB1 cB2 cB3
  obtain ⟨zA, cA0, cA1, cA2, cA3⟩ := A.out
  obtain ⟨zB, cB0, cB1, cB2, cB3⟩ := B.out
  go_wp2_with fail
  refine (C5.out _).mono ?_; rintro e w3 ⟨rfl, hb⟩
  replace A := hide ((A.out).below hb)
  replace B := hide ((B.out).below hb)
  replace H := hide (below_tr H.out (hb))
  clear hb zA cA0 cA1 cA2 cA3 zB cB0 cB1 cB2 cB3
  go_wp2_with fail
  refine (C9.out _).mono ?_; rintro e w4 ⟨rfl, hb⟩
  replace A := hide ((A.out).below hb)
  replace B := hide ((B.out).below hb)
  replace H := hide (below_tr H.out (hb))
  clear hb
  go_wp2_with fail
  go_ret
  exact ⟨rfl, H.out⟩
end Go.Proofs.Ytaaajbpdnbhghaa
