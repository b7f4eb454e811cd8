/-
  Two ints that came in as an array: their values.
-/
import Derived.Test.YtaaajbpdnbhghaaR3Open
namespace Go.Proofs.Ytaaajbpdnbhghaa
open Go.ChangeShapes Go.WideShapes Go.RowKit Go.Joins
section
variable {H : Type} {enc : TypeId × Value → H} {W : World} {r : Reach} {base b0 : Nat} {sp : Nat → Bool} {held : Bool} {v : Value} {d : DataW H} {p : List MemPlace}
theorem cellsPair : Try.prog.cellsOf 29 = 2 := by kernel_rfl
theorem okWide_array {P : Program} {n : Nat} {t e : TypeId} (ht : P.underlying t = some (.array n e)) (h : Value.okWide P W r b0 t v) : ∃ cs, v = .agg cs ∧ cs.size = P.cellsOf t := by
  simp only [Value.okWide, ht] at h
  obtain ⟨cs, h1, h2, _⟩ := h
  exact ⟨cs, h1, h2⟩
theorem open_pair (hv : Value.okWide Try.prog W r b0 29 v) (h : DataW.Trod enc Try.prog W base sp held 29 v d p) :
    ∃ a0 a1, v = .agg #[.int .i64 a0, .int .i64 a1] := by
  obtain ⟨cs, rfl, hs⟩ := okWide_array Try.underlying29 hv
  rw [cellsPair] at hs
  obtain ⟨c0, c1, rfl⟩ := array2 hs
  obtain ⟨fuel, hf⟩ := h
  obtain ⟨xs, m, _, _, _, hl, hx⟩ := DataW.trod_array Try.underlying29 hf
  have x0 := hx 0 (by omega)
  have x1 := hx 1 (by omega)
  rw [List.getElem?_eq_getElem (by omega)] at x0 x1
  simp only [Value.cells, cellsInt] at x0 x1
  obtain ⟨a0, rfl, _⟩ := int_cell (by simpa using x0)
  obtain ⟨a1, rfl, _⟩ := int_cell (by simpa using x1)
  exact ⟨a0, a1, rfl⟩
end
end Go.Proofs.Ytaaajbpdnbhghaa
