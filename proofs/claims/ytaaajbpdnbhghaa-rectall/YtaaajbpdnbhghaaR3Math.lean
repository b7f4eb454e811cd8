/-
  Rectangles: arithmetic of Meet, Join, Holds.
-/
import Derived.Test.YtaaajbpdnbhghaaR3B
namespace Go.Proofs.Ytaaajbpdnbhghaa
open Go.RowKit

theorem holdsQ_f {a0 a1 a2 a3 b0 b1 b2 b3 : Int} (h : mayB a0 a1 a2 a3 = false ∨ mayB b0 b1 b2 b3 = false) : holdsQ a0 a1 a2 a3 b0 b1 b2 b3 = false := by
  rcases h with h | h <;> simp [holdsQ, h]
theorem holdsQ_t {a0 a1 a2 a3 b0 b1 b2 b3 : Int} (ha : mayB a0 a1 a2 a3 = true) (hb : mayB b0 b1 b2 b3 = true) (h : a0 ≤ b0 ∧ a1 ≤ b1 ∧ b2 ≤ a2 ∧ b3 ≤ a3) : holdsQ a0 a1 a2 a3 b0 b1 b2 b3 = true := by
  simp [holdsQ, ha, hb, h.1, h.2.1, h.2.2.1, h.2.2.2]
theorem holdsQ_n {a0 a1 a2 a3 b0 b1 b2 b3 : Int} (h : ¬ (a0 ≤ b0 ∧ a1 ≤ b1 ∧ b2 ≤ a2 ∧ b3 ≤ a3)) : holdsQ a0 a1 a2 a3 b0 b1 b2 b3 = false := by
  cases hq : holdsQ a0 a1 a2 a3 b0 b1 b2 b3
  · rfl
  · unfold holdsQ at hq
    simp only [Bool.and_eq_true, decide_eq_true_eq] at hq
    omega
theorem join_a {a0 a1 a2 a3 b0 b1 b2 b3 : Int} (ha : mayB a0 a1 a2 a3 = true) (hb : mayB b0 b1 b2 b3 = true) : holdsQ (min a0 b0) (min a1 b1) (max a2 b2) (max a3 b3) a0 a1 a2 a3 = true :=
  holdsQ_t (join_may ha hb) ha (by omega)
theorem join_b {a0 a1 a2 a3 b0 b1 b2 b3 : Int} (ha : mayB a0 a1 a2 a3 = true) (hb : mayB b0 b1 b2 b3 = true) : holdsQ (min a0 b0) (min a1 b1) (max a2 b2) (max a3 b3) b0 b1 b2 b3 = true :=
  holdsQ_t (join_may ha hb) hb (by omega)
theorem meet_a {a0 a1 a2 a3 b0 b1 b2 b3 : Int} (ha : mayB a0 a1 a2 a3 = true) (hm : mayB (max a0 b0) (max a1 b1) (min a2 b2) (min a3 b3) = true) : holdsQ a0 a1 a2 a3 (max a0 b0) (max a1 b1) (min a2 b2) (min a3 b3) = true :=
  holdsQ_t ha hm (by omega)
theorem meet_b {a0 a1 a2 a3 b0 b1 b2 b3 : Int} (hb : mayB b0 b1 b2 b3 = true) (hm : mayB (max a0 b0) (max a1 b1) (min a2 b2) (min a3 b3) = true) : holdsQ b0 b1 b2 b3 (max a0 b0) (max a1 b1) (min a2 b2) (min a3 b3) = true :=
  holdsQ_t hb hm (by omega)
theorem meetQ_e {a0 a1 a2 a3 b0 b1 b2 b3 : Int} (ha : mayB a0 a1 a2 a3 = true) (hb : mayB b0 b1 b2 b3 = true) : meetQ a0 a1 a2 a3 b0 b1 b2 b3 = mayB (max a0 b0) (max a1 b1) (min a2 b2) (min a3 b3) := by
  simp [meetQ, ha, hb]
theorem joinQ_e {a0 a1 a2 a3 b0 b1 b2 b3 : Int} (ha : mayB a0 a1 a2 a3 = true) (hb : mayB b0 b1 b2 b3 = true) : joinQ a0 a1 a2 a3 b0 b1 b2 b3 = true := by
  simp [joinQ, ha, hb]
end Go.Proofs.Ytaaajbpdnbhghaa
