/-
  RectBack, walked.
-/
import Derived.Test.YtaaajbpdnbhghabR3BackN
namespace Go.Proofs.Ytaaajbpdnbhghab
open Go.RowKit

theorem shiftQ_iff {a0 a1 a2 a3 dx dy : Int} : shiftQ a0 a1 a2 a3 dx dy = true ↔ (mayB a0 a1 a2 a3 = true ∧ inB dx = true ∧ inB dy = true ∧ mayB (a0 + dx) (a1 + dy) (a2 + dx) (a3 + dy) = true) := by
  unfold shiftQ; simp only [Bool.and_eq_true]; constructor
  · rintro ⟨⟨⟨p, q⟩, r⟩, s⟩; exact ⟨p, q, r, s⟩
  · rintro ⟨p, q, r, s⟩; exact ⟨⟨⟨p, q⟩, r⟩, s⟩
theorem insetQ_iff {a0 a1 a2 a3 d : Int} : insetQ a0 a1 a2 a3 d = true ↔ (mayB a0 a1 a2 a3 = true ∧ inB d = true ∧ mayB (a0 + d) (a1 + d) (a2 - d) (a3 - d) = true) := by
  unfold insetQ; simp only [Bool.and_eq_true]; constructor
  · rintro ⟨⟨p, q⟩, r⟩; exact ⟨p, q, r⟩
  · rintro ⟨p, q, r⟩; exact ⟨⟨p, q⟩, r⟩
theorem inB_neg {x : Int} (h : inB x = true) : inB (-x) = true := by
  have := inB_bd h
  exact inB_t (by omega) (by omega)
theorem shiftQ_back {a0 a1 a2 a3 dx dy : Int} (h : shiftQ a0 a1 a2 a3 dx dy = true) : shiftQ (a0 + dx) (a1 + dy) (a2 + dx) (a3 + dy) (-dx) (-dy) = true := by
  obtain ⟨p, q, r, s⟩ := shiftQ_iff.1 h
  refine shiftQ_iff.2 ⟨s, inB_neg q, inB_neg r, ?_⟩
  rw [show a0 + dx + -dx = a0 by omega, show a1 + dy + -dy = a1 by omega, show a2 + dx + -dx = a2 by omega, show a3 + dy + -dy = a3 by omega]
  exact p
theorem insetQ_back {a0 a1 a2 a3 d : Int} (h : insetQ a0 a1 a2 a3 d = true) : insetQ (a0 + d) (a1 + d) (a2 - d) (a3 - d) (-d) = true := by
  obtain ⟨p, q, r⟩ := insetQ_iff.1 h
  refine insetQ_iff.2 ⟨r, inB_neg q, ?_⟩
  rw [show a0 + d + -d = a0 by omega, show a1 + d + -d = a1 by omega, show a2 - d - -d = a2 by omega, show a3 - d - -d = a3 by omega]
  exact p

theorem back_walk (a0 a1 a2 a3 dx dy : Int) (w : World) :
    Calls Try.prog 3 #[.agg #[.int .i64 a0, .int .i64 a1, .int .i64 a2, .int .i64 a3], .int .i64 dx, .int .i64 dy] w fun e w' => e = .returned (.bool true) ∧ Below w.heap.size w w' := by
  have D1 := fun w => shift_any a0 a1 a2 a3 dx dy w
  cases hs : shiftQ a0 a1 a2 a3 dx dy
  · rw [hs] at D1
    simp only [tl_f rfl] at D1
    exact back_no a0 a1 a2 a3 dx dy w D1
  have D2 := fun w => shift_any (a0 + dx) (a1 + dy) (a2 + dx) (a3 + dy) (-dx) (-dy) w
  have D3 := fun w => inset_any a0 a1 a2 a3 dx w
  rw [shiftQ_back hs] at D2
  rw [hs] at D1
  simp only [tl_t rfl] at D1 D2
  rw [show a0 + dx + -dx = a0 by omega, show a1 + dy + -dy = a1 by omega, show a2 + dx + -dx = a2 by omega, show a3 + dy + -dy = a3 by omega] at D2
  obtain ⟨p, q, r, s⟩ := shiftQ_iff.1 hs
  have bp := mayB_bd p
  have bs := mayB_bd s
  have bx := inB_bd q
  have bz := inB_bd r
  have e1 : (a2 + dx - (a0 + dx) == a2 - a0) = true := by rw [beq_iff_eq]; omega
  have e2 : (a3 + dy - (a1 + dy) == a3 - a1) = true := by rw [beq_iff_eq]; omega
  cases hi : insetQ a0 a1 a2 a3 dx
  · have D4 := fun w => inset_any 0 0 0 0 (-dx) w
    rw [hi] at D3
    simp only [tl_f rfl] at D3
    exact back_f a0 a1 a2 a3 dx dy w _ _ _ _ _ _ _ _ _ bp.1.1 bp.1.2 bp.2.1.1 bp.2.1.2 bp.2.2.1.1 bp.2.2.1.2 bp.2.2.2.1.1 bp.2.2.2.1.2 bs.1.1 bs.1.2 bs.2.1.1 bs.2.1.2 bs.2.2.1.1 bs.2.2.1.2 bs.2.2.2.1.1 bs.2.2.2.1.2 bx.1 bx.2 bz.1 bz.2 e1 e2 D1 D2 D3 D4
  · have D4 := fun w => inset_any (a0 + dx) (a1 + dx) (a2 - dx) (a3 - dx) (-dx) w
    rw [hi] at D3
    rw [insetQ_back hi] at D4
    simp only [tl_t rfl] at D3 D4
    rw [show a0 + dx + -dx = a0 by omega, show a1 + dx + -dx = a1 by omega, show a2 - dx - -dx = a2 by omega, show a3 - dx - -dx = a3 by omega] at D4
    exact back_t a0 a1 a2 a3 dx dy w _ _ _ _ _ _ _ _ bp.1.1 bp.1.2 bp.2.1.1 bp.2.1.2 bp.2.2.1.1 bp.2.2.1.2 bp.2.2.2.1.1 bp.2.2.2.1.2 bs.1.1 bs.1.2 bs.2.1.1 bs.2.1.2 bs.2.2.1.1 bs.2.2.1.2 bs.2.2.2.1.1 bs.2.2.2.1.2 bx.1 bx.2 bz.1 bz.2 e1 e2 D1 D2 D3 D4
end Go.Proofs.Ytaaajbpdnbhghab
