/-
  A rectangle, and two ints, that came in: their values.
-/
import Derived.Test.YtaaajbpdnbhghaaProg
import Derived.ProofKit
import Derived.OpenShut
import Derived.Lib.SmallJoins
namespace Go.Proofs.Ytaaajbpdnbhghaa
open Go.ChangeShapes Go.WideShapes Go.RowKit Go.Joins

theorem cellsRect : Try.prog.cellsOf 23 = 4 := by kernel_rfl
theorem cellsInt : Try.prog.cellsOf 3 = 1 := by kernel_rfl
section
variable {H : Type} {enc : TypeId × Value → H} {W : World} {r : Reach} {base b0 : Nat} {sp : Nat → Bool} {held : Bool} {v : Value} {d : DataW H} {p : List MemPlace}
theorem int_cell {n : Nat} {c : Value} {y : DataW H × List MemPlace} (h : DataW.trod enc Try.prog W base sp held n 3 [c] = some y) : ∃ a, c = .int .i64 a ∧ -9223372036854775808 ≤ a ∧ a ≤ 9223372036854775807 := by
  obtain ⟨a, e, _, wa⟩ := DataW.trod_int Try.underlying3 h
  simp only [List.cons.injEq, and_true] at e
  exact ⟨a, e, (bounds_i64 wa).1, (bounds_i64 wa).2⟩
theorem open_rect (hv : Value.okWide Try.prog W r b0 23 v) (h : DataW.Trod enc Try.prog W base sp held 23 v d p) :
    ∃ a0 a1 a2 a3, v = .agg #[.int .i64 a0, .int .i64 a1, .int .i64 a2, .int .i64 a3] := by
  obtain ⟨c0, c1, c2, c3, y0, y1, y2, y3, n, rfl, _, _, t0, t1, t2, t3⟩ := open_agg4 Try.underlying23 (by kernel_rfl) cellsRect hv h
  obtain ⟨a0, rfl, _⟩ := int_cell t0
  obtain ⟨a1, rfl, _⟩ := int_cell t1
  obtain ⟨a2, rfl, _⟩ := int_cell t2
  obtain ⟨a3, rfl, _⟩ := int_cell t3
  exact ⟨a0, a1, a2, a3, rfl⟩
end
end Go.Proofs.Ytaaajbpdnbhghaa
