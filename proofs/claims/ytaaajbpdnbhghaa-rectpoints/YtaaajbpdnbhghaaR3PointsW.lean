/-
  RectPoints, walked.
-/
import Derived.Test.YtaaajbpdnbhghaaR3Math
import Derived.Test.YtaaajbpdnbhghaaR3PointsN
import Derived.Test.YtaaajbpdnbhghaaR3Pt0
import Derived.Test.YtaaajbpdnbhghaaR3Pt1
import Derived.Test.YtaaajbpdnbhghaaR3Pt2
import Derived.Test.YtaaajbpdnbhghaaR3Pt3
import Derived.Test.YtaaajbpdnbhghaaR3Pt4
import Derived.Test.YtaaajbpdnbhghaaR3Pt5
import Derived.Test.YtaaajbpdnbhghaaR3Pt6
import Derived.Test.YtaaajbpdnbhghaaR3Pt7
import Derived.Test.YtaaajbpdnbhghaaR3Pt8
import Derived.Test.YtaaajbpdnbhghaaR3Pt9
import Derived.Test.YtaaajbpdnbhghaaR3Pt10
import Derived.Test.YtaaajbpdnbhghaaR3Pt11
namespace Go.Proofs.Ytaaajbpdnbhghaa
open Go.RowKit

theorem ptB_iff {a0 a1 a2 a3 x y : Int} : ptB a0 a1 a2 a3 x y = true ↔ (a0 ≤ x ∧ x ≤ a2 ∧ a1 ≤ y ∧ y ≤ a3) := by
  unfold ptB; simp only [Bool.and_eq_true, decide_eq_true_eq]; omega
theorem ptB_no {a0 a1 a2 a3 x y : Int} (h : ¬ (a0 ≤ x ∧ x ≤ a2 ∧ a1 ≤ y ∧ y ≤ a3)) : ptB a0 a1 a2 a3 x y = false := by
  cases hp : ptB a0 a1 a2 a3 x y
  · rfl
  · exact absurd (ptB_iff.1 hp) h
theorem ptB_not {a0 a1 a2 a3 x y : Int} (h : ptB a0 a1 a2 a3 x y = false) : ¬ (a0 ≤ x ∧ x ≤ a2 ∧ a1 ≤ y ∧ y ≤ a3) := by
  intro hp; rw [ptB_iff.2 hp] at h; cases h
theorem pts_may {a0 a1 a2 a3 b0 b1 b2 b3 x y : Int} (ha : mayB a0 a1 a2 a3 = true) (hb : mayB b0 b1 b2 b3 = true) (ia : ptB a0 a1 a2 a3 x y = true) (ib : ptB b0 b1 b2 b3 x y = true) : mayB (max a0 b0) (max a1 b1) (min a2 b2) (min a3 b3) = true := by
  have h1 := mayB_bd ha
  have h2 := mayB_bd hb
  have h3 := ptB_iff.1 ia
  have h4 := ptB_iff.1 ib
  exact mayB_mk (by omega)
theorem pts_hold {a0 a1 a2 a3 b0 b1 b2 b3 x y : Int} (h : holdsQ a0 a1 a2 a3 b0 b1 b2 b3 = true) (ib : ptB b0 b1 b2 b3 x y = true) : ptB a0 a1 a2 a3 x y = true := by
  unfold holdsQ at h
  simp only [Bool.and_eq_true, decide_eq_true_eq] at h
  have h4 := ptB_iff.1 ib
  exact ptB_iff.2 (by omega)
theorem points_walk (a0 a1 a2 a3 b0 b1 b2 b3 x y : Int) (w : World) :
    Calls Try.prog 7 #[.agg #[.int .i64 a0, .int .i64 a1, .int .i64 a2, .int .i64 a3], .agg #[.int .i64 b0, .int .i64 b1, .int .i64 b2, .int .i64 b3], .agg #[.int .i64 x, .int .i64 y]] w fun e w' => e = .returned (.bool true) ∧ Below w.heap.size w w' := by
  have M1 := fun w => may_any a0 a1 a2 a3 w
  have M2 := fun w => may_any b0 b1 b2 b3 w
  have R1 := fun w => rmay_any a0 a1 a2 a3 w
  have R2 := fun w => rmay_any b0 b1 b2 b3 w
  have D1 := fun w => meet_any a0 a1 a2 a3 b0 b1 b2 b3 w
  have D2 := fun w => join_any a0 a1 a2 a3 b0 b1 b2 b3 w
  have D3 := fun w => holds_any a0 a1 a2 a3 b0 b1 b2 b3 w
  cases ha : mayB a0 a1 a2 a3
  · rw [ha] at M1 R1
    rw [show meetQ a0 a1 a2 a3 b0 b1 b2 b3 = false by simp [meetQ, ha]] at D1
    rw [show joinQ a0 a1 a2 a3 b0 b1 b2 b3 = false by simp [joinQ, ha]] at D2
    rw [holdsQ_f (Or.inl ha)] at D3
    simp only [tl_f rfl] at D1 D2
    exact pts_na a0 a1 a2 a3 b0 b1 b2 b3 x y w M1 R1 D1 D2 D3
  cases hb : mayB b0 b1 b2 b3
  · rw [ha] at M1 R1
    rw [hb] at M2 R2
    rw [show meetQ a0 a1 a2 a3 b0 b1 b2 b3 = false by simp [meetQ, hb]] at D1
    rw [show joinQ a0 a1 a2 a3 b0 b1 b2 b3 = false by simp [joinQ, hb]] at D2
    rw [holdsQ_f (Or.inr hb)] at D3
    simp only [tl_f rfl] at D1 D2
    exact pts_nb a0 a1 a2 a3 b0 b1 b2 b3 x y w M1 M2 R1 R2 D1 D2 D3
  rw [ha] at M1
  rw [hb] at M2
  rw [meetQ_e ha hb] at D1
  rw [joinQ_e ha hb] at D2
  simp only [tl_t rfl] at D2
  have I1 := fun w => pt_any a0 a1 a2 a3 x y w
  have I2 := fun w => pt_any b0 b1 b2 b3 x y w
  have I3 := fun w => pt_any (max a0 b0) (max a1 b1) (min a2 b2) (min a3 b3) x y w
  have I4 := fun w => pt_any (min a0 b0) (min a1 b1) (max a2 b2) (max a3 b3) x y w
  cases ia : ptB a0 a1 a2 a3 x y
  · rw [ia] at I1
    cases ib : ptB b0 b1 b2 b3 x y
    · rw [ib] at I2
      cases hp : mayB (max a0 b0) (max a1 b1) (min a2 b2) (min a3 b3)
      · rw [hp] at D1
        simp only [tl_f rfl] at D1
        cases hh : holdsQ a0 a1 a2 a3 b0 b1 b2 b3
        · rw [hh] at D3
          have g1 := ptB_not ia
          have g2 := ptB_not ib
          exact pts_ffff a0 a1 a2 a3 b0 b1 b2 b3 x y w _ _ _ _ M1 M2 D1 D2 D3 I1 I2
        · rw [hh] at D3
          have g1 := ptB_not ia
          have g2 := ptB_not ib
          exact pts_ffft a0 a1 a2 a3 b0 b1 b2 b3 x y w _ _ _ _ M1 M2 D1 D2 D3 I1 I2
      · rw [hp] at D1
        simp only [tl_t rfl] at D1
        cases hh : holdsQ a0 a1 a2 a3 b0 b1 b2 b3
        · rw [hh] at D3
          have g1 := ptB_not ia
          have g2 := ptB_not ib
          rw [ptB_no (show ¬ (max a0 b0 ≤ x ∧ x ≤ min a2 b2 ∧ max a1 b1 ≤ y ∧ y ≤ min a3 b3) by omega)] at I3
          exact pts_fftf a0 a1 a2 a3 b0 b1 b2 b3 x y w _ _ _ _ _ _ _ _ M1 M2 D1 D2 D3 I1 I2 I3
        · rw [hh] at D3
          have g1 := ptB_not ia
          have g2 := ptB_not ib
          rw [ptB_no (show ¬ (max a0 b0 ≤ x ∧ x ≤ min a2 b2 ∧ max a1 b1 ≤ y ∧ y ≤ min a3 b3) by omega)] at I3
          exact pts_fftt a0 a1 a2 a3 b0 b1 b2 b3 x y w _ _ _ _ _ _ _ _ M1 M2 D1 D2 D3 I1 I2 I3
    · rw [ib] at I2
      cases hp : mayB (max a0 b0) (max a1 b1) (min a2 b2) (min a3 b3)
      · rw [hp] at D1
        simp only [tl_f rfl] at D1
        cases hh : holdsQ a0 a1 a2 a3 b0 b1 b2 b3
        · rw [hh] at D3
          have g1 := ptB_not ia
          have g2 := ptB_iff.1 ib
          rw [ptB_iff.2 (show min a0 b0 ≤ x ∧ x ≤ max a2 b2 ∧ min a1 b1 ≤ y ∧ y ≤ max a3 b3 by omega)] at I4
          exact pts_ftff a0 a1 a2 a3 b0 b1 b2 b3 x y w _ _ _ _ M1 M2 D1 D2 D3 I1 I2 I4
        · rw [hh] at D3
          rw [pts_hold hh ib] at ia
          cases ia
      · rw [hp] at D1
        simp only [tl_t rfl] at D1
        cases hh : holdsQ a0 a1 a2 a3 b0 b1 b2 b3
        · rw [hh] at D3
          have g1 := ptB_not ia
          have g2 := ptB_iff.1 ib
          rw [ptB_no (show ¬ (max a0 b0 ≤ x ∧ x ≤ min a2 b2 ∧ max a1 b1 ≤ y ∧ y ≤ min a3 b3) by omega)] at I3
          rw [ptB_iff.2 (show min a0 b0 ≤ x ∧ x ≤ max a2 b2 ∧ min a1 b1 ≤ y ∧ y ≤ max a3 b3 by omega)] at I4
          exact pts_fttf a0 a1 a2 a3 b0 b1 b2 b3 x y w _ _ _ _ _ _ _ _ M1 M2 D1 D2 D3 I1 I2 I3 I4
        · rw [hh] at D3
          rw [pts_hold hh ib] at ia
          cases ia
  · rw [ia] at I1
    cases ib : ptB b0 b1 b2 b3 x y
    · rw [ib] at I2
      cases hp : mayB (max a0 b0) (max a1 b1) (min a2 b2) (min a3 b3)
      · rw [hp] at D1
        simp only [tl_f rfl] at D1
        cases hh : holdsQ a0 a1 a2 a3 b0 b1 b2 b3
        · rw [hh] at D3
          have g1 := ptB_iff.1 ia
          have g2 := ptB_not ib
          rw [ptB_iff.2 (show min a0 b0 ≤ x ∧ x ≤ max a2 b2 ∧ min a1 b1 ≤ y ∧ y ≤ max a3 b3 by omega)] at I4
          exact pts_tfff a0 a1 a2 a3 b0 b1 b2 b3 x y w _ _ _ _ M1 M2 D1 D2 D3 I1 I2 I4
        · rw [hh] at D3
          have g1 := ptB_iff.1 ia
          have g2 := ptB_not ib
          rw [ptB_iff.2 (show min a0 b0 ≤ x ∧ x ≤ max a2 b2 ∧ min a1 b1 ≤ y ∧ y ≤ max a3 b3 by omega)] at I4
          exact pts_tfft a0 a1 a2 a3 b0 b1 b2 b3 x y w _ _ _ _ M1 M2 D1 D2 D3 I1 I2 I4
      · rw [hp] at D1
        simp only [tl_t rfl] at D1
        cases hh : holdsQ a0 a1 a2 a3 b0 b1 b2 b3
        · rw [hh] at D3
          have g1 := ptB_iff.1 ia
          have g2 := ptB_not ib
          rw [ptB_no (show ¬ (max a0 b0 ≤ x ∧ x ≤ min a2 b2 ∧ max a1 b1 ≤ y ∧ y ≤ min a3 b3) by omega)] at I3
          rw [ptB_iff.2 (show min a0 b0 ≤ x ∧ x ≤ max a2 b2 ∧ min a1 b1 ≤ y ∧ y ≤ max a3 b3 by omega)] at I4
          exact pts_tftf a0 a1 a2 a3 b0 b1 b2 b3 x y w _ _ _ _ _ _ _ _ M1 M2 D1 D2 D3 I1 I2 I3 I4
        · rw [hh] at D3
          have g1 := ptB_iff.1 ia
          have g2 := ptB_not ib
          rw [ptB_no (show ¬ (max a0 b0 ≤ x ∧ x ≤ min a2 b2 ∧ max a1 b1 ≤ y ∧ y ≤ min a3 b3) by omega)] at I3
          rw [ptB_iff.2 (show min a0 b0 ≤ x ∧ x ≤ max a2 b2 ∧ min a1 b1 ≤ y ∧ y ≤ max a3 b3 by omega)] at I4
          exact pts_tftt a0 a1 a2 a3 b0 b1 b2 b3 x y w _ _ _ _ _ _ _ _ M1 M2 D1 D2 D3 I1 I2 I3 I4
    · rw [ib] at I2
      cases hp : mayB (max a0 b0) (max a1 b1) (min a2 b2) (min a3 b3)
      · rw [hp] at D1
        simp only [tl_f rfl] at D1
        cases hh : holdsQ a0 a1 a2 a3 b0 b1 b2 b3
        · rw [hh] at D3
          rw [pts_may ha hb ia ib] at hp
          cases hp
        · rw [hh] at D3
          rw [pts_may ha hb ia ib] at hp
          cases hp
      · rw [hp] at D1
        simp only [tl_t rfl] at D1
        cases hh : holdsQ a0 a1 a2 a3 b0 b1 b2 b3
        · rw [hh] at D3
          have g1 := ptB_iff.1 ia
          have g2 := ptB_iff.1 ib
          rw [ptB_iff.2 (show max a0 b0 ≤ x ∧ x ≤ min a2 b2 ∧ max a1 b1 ≤ y ∧ y ≤ min a3 b3 by omega)] at I3
          rw [ptB_iff.2 (show min a0 b0 ≤ x ∧ x ≤ max a2 b2 ∧ min a1 b1 ≤ y ∧ y ≤ max a3 b3 by omega)] at I4
          exact pts_tttf a0 a1 a2 a3 b0 b1 b2 b3 x y w _ _ _ _ _ _ _ _ M1 M2 D1 D2 D3 I1 I2 I3 I4
        · rw [hh] at D3
          have g1 := ptB_iff.1 ia
          have g2 := ptB_iff.1 ib
          rw [ptB_iff.2 (show max a0 b0 ≤ x ∧ x ≤ min a2 b2 ∧ max a1 b1 ≤ y ∧ y ≤ min a3 b3 by omega)] at I3
          rw [ptB_iff.2 (show min a0 b0 ≤ x ∧ x ≤ max a2 b2 ∧ min a1 b1 ≤ y ∧ y ≤ max a3 b3 by omega)] at I4
          exact pts_tttt a0 a1 a2 a3 b0 b1 b2 b3 x y w _ _ _ _ _ _ _ _ M1 M2 D1 D2 D3 I1 I2 I3 I4
end Go.Proofs.Ytaaajbpdnbhghaa
