/-
  RectLattice, walked.
-/
import Derived.Test.YtaaajbpdnbhghaaR3Math
import Derived.Test.YtaaajbpdnbhghaaR3LatticeN
import Derived.Test.YtaaajbpdnbhghaaR3LatT0
import Derived.Test.YtaaajbpdnbhghaaR3LatT1
import Derived.Test.YtaaajbpdnbhghaaR3LatT2
import Derived.Test.YtaaajbpdnbhghaaR3LatT3
import Derived.Test.YtaaajbpdnbhghaaR3LatT4
import Derived.Test.YtaaajbpdnbhghaaR3LatF0
import Derived.Test.YtaaajbpdnbhghaaR3LatF1
import Derived.Test.YtaaajbpdnbhghaaR3LatF2
import Derived.Test.YtaaajbpdnbhghaaR3LatF3
namespace Go.Proofs.Ytaaajbpdnbhghaa
open Go.RowKit

theorem lattice_walk (a0 a1 a2 a3 b0 b1 b2 b3 : Int) (w : World) :
    Calls Try.prog 8 #[.agg #[.int .i64 a0, .int .i64 a1, .int .i64 a2, .int .i64 a3], .agg #[.int .i64 b0, .int .i64 b1, .int .i64 b2, .int .i64 b3]] w fun e w' => e = .returned (.bool true) ∧ Below w.heap.size w w' := by
  cases ha : mayB a0 a1 a2 a3
  · exact lat_na _ _ _ _ _ _ _ _ w ha
  cases hb : mayB b0 b1 b2 b3
  · exact lat_nb _ _ _ _ _ _ _ _ w ha hb
  have C0 := fun w => rmay_any a0 a1 a2 a3 w
  have C1 := fun w => rmay_any b0 b1 b2 b3 w
  have D1 := fun w => meet_any a0 a1 a2 a3 b0 b1 b2 b3 w
  have D2 := fun w => meet_any b0 b1 b2 b3 a0 a1 a2 a3 w
  have D3 := fun w => join_any a0 a1 a2 a3 b0 b1 b2 b3 w
  have D4 := fun w => join_any b0 b1 b2 b3 a0 a1 a2 a3 w
  have D5 := fun w => holds_any a0 a1 a2 a3 b0 b1 b2 b3 w
  have D6 := fun w => holds_any (min a0 b0) (min a1 b1) (max a2 b2) (max a3 b3) a0 a1 a2 a3 w
  have D7 := fun w => holds_any (min a0 b0) (min a1 b1) (max a2 b2) (max a3 b3) b0 b1 b2 b3 w
  rw [ha] at C0
  rw [hb] at C1
  rw [meetQ_e ha hb] at D1
  rw [meetQ_e hb ha] at D2
  rw [joinQ_e ha hb] at D3
  rw [joinQ_e hb ha] at D4
  rw [join_a ha hb] at D6
  rw [join_b ha hb] at D7
  simp only [tl_t rfl] at D3 D4
  rw [Int.max_comm b0 a0, Int.max_comm b1 a1, Int.min_comm b2 a2, Int.min_comm b3 a3] at D2
  rw [Int.min_comm b0 a0, Int.min_comm b1 a1, Int.max_comm b2 a2, Int.max_comm b3 a3] at D4
  cases hq : mayB (max a0 b0) (max a1 b1) (min a2 b2) (min a3 b3)
  · rw [hq] at D1 D2
    simp only [tl_f rfl] at D1 D2
    by_cases g0 : a0 ≤ b0
    case neg =>
      rw [holdsQ_n (by omega)] at D5
      exact lat_f0 a0 a1 a2 a3 b0 b1 b2 b3 w _ _ _ _ (by simp only [beq_eq_false_iff_ne, ne_eq]; omega) C0 C1 D1 D2 D3 D4 D5 D6 D7
    by_cases g1 : a1 ≤ b1
    case neg =>
      rw [holdsQ_n (by omega)] at D5
      rw [show min a0 b0 = a0 by omega] at D3 D4 D6 D7
      exact lat_f1 a0 a1 a2 a3 b0 b1 b2 b3 w _ _ _ (by simp only [beq_eq_false_iff_ne, ne_eq]; omega) C0 C1 D1 D2 D3 D4 D5 D6 D7
    by_cases g2 : b2 ≤ a2
    case neg =>
      rw [holdsQ_n (by omega)] at D5
      rw [show min a0 b0 = a0 by omega] at D3 D4 D6 D7
      rw [show min a1 b1 = a1 by omega] at D3 D4 D6 D7
      exact lat_f2 a0 a1 a2 a3 b0 b1 b2 b3 w _ _ (by simp only [beq_eq_false_iff_ne, ne_eq]; omega) C0 C1 D1 D2 D3 D4 D5 D6 D7
    by_cases g3 : b3 ≤ a3
    case neg =>
      rw [holdsQ_n (by omega)] at D5
      rw [show min a0 b0 = a0 by omega] at D3 D4 D6 D7
      rw [show min a1 b1 = a1 by omega] at D3 D4 D6 D7
      rw [show max a2 b2 = a2 by omega] at D3 D4 D6 D7
      exact lat_f3 a0 a1 a2 a3 b0 b1 b2 b3 w _ (by simp only [beq_eq_false_iff_ne, ne_eq]; omega) C0 C1 D1 D2 D3 D4 D5 D6 D7
    rw [show max a0 b0 = b0 by omega, show max a1 b1 = b1 by omega, show min a2 b2 = b2 by omega, show min a3 b3 = b3 by omega, hb] at hq
    simp at hq
  · have D8 := fun w => holds_any a0 a1 a2 a3 (max a0 b0) (max a1 b1) (min a2 b2) (min a3 b3) w
    have D9 := fun w => holds_any b0 b1 b2 b3 (max a0 b0) (max a1 b1) (min a2 b2) (min a3 b3) w
    rw [meet_a ha hq] at D8
    rw [meet_b hb hq] at D9
    rw [hq] at D1 D2
    simp only [tl_t rfl] at D1 D2
    by_cases g0 : a0 ≤ b0
    case neg =>
      rw [holdsQ_n (by omega)] at D5
      exact lat_t0 a0 a1 a2 a3 b0 b1 b2 b3 w _ _ _ _ _ _ _ _ (by simp only [beq_eq_false_iff_ne, ne_eq]; omega) (by simp only [beq_eq_false_iff_ne, ne_eq]; omega) C0 C1 D1 D2 D3 D4 D5 D6 D7 D8 D9
    by_cases g1 : a1 ≤ b1
    case neg =>
      rw [holdsQ_n (by omega)] at D5
      rw [show min a0 b0 = a0 by omega] at D3 D4 D6 D7
      rw [show max a0 b0 = b0 by omega] at D1 D2 D8 D9
      exact lat_t1 a0 a1 a2 a3 b0 b1 b2 b3 w _ _ _ _ _ _ (by simp only [beq_eq_false_iff_ne, ne_eq]; omega) (by simp only [beq_eq_false_iff_ne, ne_eq]; omega) C0 C1 D1 D2 D3 D4 D5 D6 D7 D8 D9
    by_cases g2 : b2 ≤ a2
    case neg =>
      rw [holdsQ_n (by omega)] at D5
      rw [show min a0 b0 = a0 by omega] at D3 D4 D6 D7
      rw [show max a0 b0 = b0 by omega] at D1 D2 D8 D9
      rw [show min a1 b1 = a1 by omega] at D3 D4 D6 D7
      rw [show max a1 b1 = b1 by omega] at D1 D2 D8 D9
      exact lat_t2 a0 a1 a2 a3 b0 b1 b2 b3 w _ _ _ _ (by simp only [beq_eq_false_iff_ne, ne_eq]; omega) (by simp only [beq_eq_false_iff_ne, ne_eq]; omega) C0 C1 D1 D2 D3 D4 D5 D6 D7 D8 D9
    by_cases g3 : b3 ≤ a3
    case neg =>
      rw [holdsQ_n (by omega)] at D5
      rw [show min a0 b0 = a0 by omega] at D3 D4 D6 D7
      rw [show max a0 b0 = b0 by omega] at D1 D2 D8 D9
      rw [show min a1 b1 = a1 by omega] at D3 D4 D6 D7
      rw [show max a1 b1 = b1 by omega] at D1 D2 D8 D9
      rw [show max a2 b2 = a2 by omega] at D3 D4 D6 D7
      rw [show min a2 b2 = b2 by omega] at D1 D2 D8 D9
      exact lat_t3 a0 a1 a2 a3 b0 b1 b2 b3 w _ _ (by simp only [beq_eq_false_iff_ne, ne_eq]; omega) (by simp only [beq_eq_false_iff_ne, ne_eq]; omega) C0 C1 D1 D2 D3 D4 D5 D6 D7 D8 D9
    rw [holdsQ_t ha hb ⟨g0, g1, g2, g3⟩] at D5
    rw [show min a0 b0 = a0 by omega] at D3 D4 D6 D7
    rw [show max a0 b0 = b0 by omega] at D1 D2 D8 D9
    rw [show min a1 b1 = a1 by omega] at D3 D4 D6 D7
    rw [show max a1 b1 = b1 by omega] at D1 D2 D8 D9
    rw [show max a2 b2 = a2 by omega] at D3 D4 D6 D7
    rw [show min a2 b2 = b2 by omega] at D1 D2 D8 D9
    rw [show max a3 b3 = a3 by omega] at D3 D4 D6 D7
    rw [show min a3 b3 = b3 by omega] at D1 D2 D8 D9
    exact lat_t4 a0 a1 a2 a3 b0 b1 b2 b3 w C0 C1 D1 D2 D3 D4 D5 D6 D7 D8 D9
end Go.Proofs.Ytaaajbpdnbhghaa
