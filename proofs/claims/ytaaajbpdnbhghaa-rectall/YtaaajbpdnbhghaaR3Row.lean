/-
  A slice of rectangles that came in, as a list of ints in memory: four a rectangle.
-/
import Derived.Test.YtaaajbpdnbhghaaR3Open
import Derived.Test.YtaaajbpdnbhghaaLst
import Derived.Deep.Slices
namespace Go.Proofs.Ytaaajbpdnbhghaa
open Go.ChangeShapes Go.WideShapes Go.RowKit Go.Joins Go.Deep

theorem cell_lt {w : World} {b o : Nat} {v : Value} (h : w.cell? ⟨b, o, none⟩ = some v) : b < w.heap.size := by
  by_cases hb : b < w.heap.size
  · exact hb
  · unfold World.cell? at h
    rw [Array.getElem?_eq_none (by show w.heap.size ≤ b; omega)] at h
    simp at h

/- the rectangles zs (four ints each), 'len' of them, at the address a -/
def RRow (w : World) (a : Option Addr) (len cap : Nat) (zs : List Int) : Prop := zs.length = len * 4 ∧ len ≤ cap ∧ cap ≤ 9223372036854775807 ∧ Lst w a zs

section
variable {H : Type} {enc : TypeId × Value → H} {W : World} {r : Reach} {base b0 : Nat} {sp : Nat → Bool} {held : Bool} {v : Value} {d : DataW H} {p : List MemPlace}

def comp4 (q : Int × Int × Int × Int) : Nat → Int
  | 0 => q.1
  | 1 => q.2.1
  | 2 => q.2.2.1
  | _ => q.2.2.2

theorem rects_at {x : Addr} {len : Nat} {q : Nat → Int × Int × Int × Int}
    (hq : ∀ i, i < len → W.cell? (x.add (i * 4)) = some (.int .i64 (q i).1) ∧ W.cell? (x.add (i * 4 + 1)) = some (.int .i64 (q i).2.1) ∧ W.cell? (x.add (i * 4 + 2)) = some (.int .i64 (q i).2.2.1) ∧ W.cell? (x.add (i * 4 + 3)) = some (.int .i64 (q i).2.2.2)) :
    ∃ zs : List Int, zs.length = len * 4 ∧ ∀ i, i < zs.length → W.cell? (x.add i) = some (.int .i64 (zs.getD i 0)) := by
  refine ⟨(List.range (len * 4)).map fun j => comp4 (q (j / 4)) (j % 4), by simp, fun i hi => ?_⟩
  simp only [List.length_map, List.length_range] at hi
  rw [List.getD_eq_getElem?_getD, List.getElem?_map, List.getElem?_range hi]
  simp only [Option.map_some, Option.getD_some]
  obtain ⟨h0, h1, h2, h3⟩ := hq (i / 4) (by omega)
  have hm : i % 4 < 4 := Nat.mod_lt _ (by omega)
  have he : i = i / 4 * 4 + i % 4 := by omega
  generalize i % 4 = k at *
  generalize i / 4 = n at *
  subst he
  match k, hm with
  | 0, _ => exact h0
  | 1, _ => exact h1
  | 2, _ => exact h2
  | 3, _ => exact h3

theorem open_rects (hv : Value.okWide Try.prog W r b0 35 v) (h : DataW.Trod enc Try.prog W base sp held 35 v d p) :
    ∃ a len cap zs, v = .slice a len cap ∧ RRow W a len cap zs := by
  obtain ⟨a, len, cap, rfl⟩ := okWide_slice Try.underlying35 hv
  refine ⟨a, len, cap, ?_⟩
  obtain ⟨fuel, hf⟩ := h
  rcases open_slice Try.underlying35 hf with ⟨hcs, _⟩ | ⟨x, len', cap', m, n, D, Pl, hcs, _, hl, hm, hmm, _, hx⟩
  · simp [Value.cells] at hcs
    obtain ⟨rfl, rfl, rfl⟩ := hcs
    exact ⟨[], rfl, by simp, by omega, by omega, Or.inl rfl⟩
  · simp [Value.cells] at hcs
    obtain ⟨rfl, rfl, rfl⟩ := hcs
    have hlm : len ≤ m := by rw [hmm]; split <;> omega
    have each : ∀ i, i < len → ∃ q : Int × Int × Int × Int, W.cell? (x.add (i * 4)) = some (.int .i64 q.1) ∧ W.cell? (x.add (i * 4 + 1)) = some (.int .i64 q.2.1) ∧ W.cell? (x.add (i * 4 + 2)) = some (.int .i64 q.2.2.1) ∧ W.cell? (x.add (i * 4 + 3)) = some (.int .i64 q.2.2.2) := by
      intro i hi
      obtain ⟨cs', h1, h2⟩ := hx i (by omega)
      rw [cellsRect] at h1
      obtain ⟨_, hlen, hcell⟩ := World.cells?_some h1
      obtain ⟨y0, y1, y2, y3, k, _, _, g0, g1, g2, g3⟩ := trod_struct4 Try.underlying23 h2
      match cs', hlen with
      | [v0, v1, v2, v3], _ =>
        have e0 := hcell 0 (by omega)
        have e1 := hcell 1 (by omega)
        have e2 := hcell 2 (by omega)
        have e3 := hcell 3 (by omega)
        rw [add_add] at e0 e1 e2 e3
        obtain ⟨z0, rfl, _⟩ := int_cell (by simpa [cellsInt] using g0)
        obtain ⟨z1, rfl, _⟩ := int_cell (by simpa [cellsInt] using g1)
        obtain ⟨z2, rfl, _⟩ := int_cell (by simpa [cellsInt] using g2)
        obtain ⟨z3, rfl, _⟩ := int_cell (by simpa [cellsInt] using g3)
        exact ⟨(z0, z1, z2, z3), by simpa using e0, by simpa using e1, by simpa using e2, by simpa using e3⟩
    haveI : Inhabited (Int × Int × Int × Int) := ⟨(0, 0, 0, 0)⟩
    obtain ⟨q, hq⟩ := choose_lt each
    obtain ⟨zs, hz, hc⟩ := rects_at hq
    refine ⟨zs, rfl, hz, hl, by unfold maxLen at hm; exact hm, ?_⟩
    by_cases h0 : zs.length = 0
    · exact Or.inl (List.eq_nil_of_length_eq_zero h0)
    · obtain ⟨b, off, rfl, hc'⟩ := ints_at hc (by omega)
      exact Or.inr ⟨b, off, rfl, cell_lt (hc' 0 (by omega)), hc'⟩
end
end Go.Proofs.Ytaaajbpdnbhghaa
