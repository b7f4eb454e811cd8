/-
  Metrics that came in: their value, and what lies in memory.
-/
import Derived.Test.YtkdnoemakclmdaaM9Wk
import Derived.ProofKit
import Derived.OpenShut
import Derived.ChangeSlices
import Derived.ChangeArms
import Derived.Deep.Slices
namespace Go.Proofs.Ytkdnoemakclmdaa
open Go.ChangeShapes Go.WideShapes Go.RowKit Go.Deep

theorem cells_int : Try.prog.cellsOf 3 = 1 := by kernel_rfl
theorem cells_bool : Try.prog.cellsOf 4 = 1 := by kernel_rfl
theorem cells_ints : Try.prog.cellsOf 23 = 1 := by kernel_rfl
theorem cells_box : Try.prog.cellsOf 22 = 4 := by kernel_rfl
theorem cells_met : Try.prog.cellsOf 25 = 11 := by kernel_rfl
theorem len8 {α : Type} {l : List α} (h : l.length = 8) : ∃ a b c d e f g i, l = [a, b, c, d, e, f, g, i] := by
  match l, h with
  | [a, b, c, d, e, f, g, i], _ => exact ⟨a, b, c, d, e, f, g, i, rfl⟩
theorem len11 {α : Type} {l : List α} (h : l.length = 11) : ∃ a b c d e f g i j k m, l = [a, b, c, d, e, f, g, i, j, k, m] := by
  match l, h with
  | [a, b, c, d, e, f, g, i, j, k, m], _ => exact ⟨a, b, c, d, e, f, g, i, j, k, m, rfl⟩
theorem cell_lt9 {w : World} {b o : Nat} {v : Value} (h : w.cell? ⟨b, o, none⟩ = some v) : b < w.heap.size := by
  by_cases hb : b < w.heap.size
  · exact hb
  · unfold World.cell? at h
    rw [Array.getElem?_eq_none (by show w.heap.size ≤ b; omega)] at h
    simp at h
/- metrics lie in memory -/
structure MIn (w : World) (m : Mt) (aa : Option Addr) (na : Nat) (ab : Option Addr) (nb : Nat) : Prop where
  up : i64 m.up
  hna : m.ad.length = na
  hnb : m.be.length = nb
  ma : na ≤ 9223372036854775807
  mb : nb ≤ 9223372036854775807
  la : Lst w aa m.ad
  lb : Lst w ab m.be
  xa : ∀ x ∈ m.ad, i64 x
  xb : ∀ x ∈ m.be, i64 x
section
variable {H : Type} {enc : TypeId × Value → H} {W : World} {base : Nat} {sp : Nat → Bool} {held : Bool}
theorem ints_cell {n : Nat} {c : Value} {y : DataW H × List MemPlace} (hf : DataW.trod enc Try.prog W base sp held n 23 [c] = some y) : ∃ a cap zs, c = .slice a zs.length cap ∧ Lst W a zs ∧ zs.length ≤ 9223372036854775807 ∧ ∀ x ∈ zs, i64 x := by
  rcases open_ints Try.underlying23 Try.underlying3 (by kernel_rfl) hf with ⟨hcs, _⟩ | ⟨x, len', cap', zs, hcs, _, hl, hm, hzl, _, hc, hw⟩
  · simp at hcs
    exact ⟨none, 0, [], hcs, Or.inl rfl, by simp, by simp⟩
  · simp at hcs
    have hlz : len' ≤ zs.length := by rw [hzl]; split <;> omega
    have htl : (zs.take len').length = len' := by rw [List.length_take]; omega
    refine ⟨some x, cap', zs.take len', by rw [htl]; exact hcs, ?_, by rw [htl]; unfold maxLen at hm; omega, fun n hn => bounds_i64 (hw n (List.mem_of_mem_take hn))⟩
    by_cases hz : zs.length = 0
    · rw [List.eq_nil_of_length_eq_zero hz]; exact Or.inl (by simp)
    · obtain ⟨b, off, rfl, hc'⟩ := ints_at hc (by omega)
      have : Lst W (some ⟨b, off, none⟩) zs := Or.inr ⟨b, off, rfl, cell_lt9 (hc' 0 (by omega)), hc'⟩
      exact this.take len'
theorem int_cell9 {n : Nat} {c : Value} {y : DataW H × List MemPlace} (h : DataW.trod enc Try.prog W base sp held n 3 [c] = some y) : ∃ a, c = .int .i64 a ∧ i64 a := by
  obtain ⟨a, e, _, wa⟩ := DataW.trod_int Try.underlying3 h
  simp only [List.cons.injEq, and_true] at e
  exact ⟨a, e, bounds_i64 wa⟩
variable {r : Reach} {b0 : Nat} {v : Value} {d : DataW H} {pl : List MemPlace}
set_option maxRecDepth 8000 in
theorem open_met (hv : Value.okWide Try.prog W r b0 25 v) (h : DataW.Trod enc Try.prog W base sp held 25 v d pl) :
    ∃ m aa na ca ab nb cb, v = .agg (mcs m (.slice aa na ca) (.slice ab nb cb)) ∧ MIn W m aa na ab nb := by
  simp only [Value.okWide, Try.underlying25] at hv
  obtain ⟨cs, rfl, _, _⟩ := hv
  obtain ⟨fuel, hf⟩ := h
  obtain ⟨xs, m, _, _, hlen, hxl, hfs⟩ := DataW.trod_struct Try.underlying25 hf
  rw [cells_met] at hlen
  simp only [Value.cells] at hlen hfs
  obtain ⟨a0, a1, a2, a3, a4, a5, a6, a7, a8, a9, a10, hcs⟩ := len11 hlen
  obtain ⟨x0, x1, x2, x3, x4, x5, x6, x7, rfl⟩ := len8 (show xs.length = 8 from hxl)
  rw [hcs] at hfs
  have g0 := hfs 0 _ rfl
  have g1 := hfs 1 _ rfl
  have g2 := hfs 2 _ rfl
  have g3 := hfs 3 _ rfl
  have g4 := hfs 4 _ rfl
  have g5 := hfs 5 _ rfl
  have g6 := hfs 6 _ rfl
  have g7 := hfs 7 _ rfl
  simp [cells_int, cells_bool, cells_ints, cells_box] at g0 g1 g2 g3 g4 g5 g6 g7
  obtain ⟨up, rfl, w0⟩ := int_cell9 g0
  obtain ⟨sc, rfl, _⟩ := int_cell9 g1
  obtain ⟨de, rfl, _⟩ := int_cell9 g2
  obtain ⟨ga, rfl, _⟩ := int_cell9 g3
  obtain ⟨ys, m', _, _, _, hyl, hy⟩ := DataW.trod_array Try.underlying22 g4
  have y0 := hy 0 (by omega)
  have y1 := hy 1 (by omega)
  have y2 := hy 2 (by omega)
  have y3 := hy 3 (by omega)
  rw [List.getElem?_eq_getElem (by omega)] at y0 y1 y2 y3
  simp [cells_int] at y0 y1 y2 y3
  obtain ⟨b0, rfl, _⟩ := int_cell9 y0
  obtain ⟨b1, rfl, _⟩ := int_cell9 y1
  obtain ⟨b2, rfl, _⟩ := int_cell9 y2
  obtain ⟨b3, rfl, _⟩ := int_cell9 y3
  obtain ⟨lg, e5, _⟩ := DataW.trod_bool Try.underlying4 g5
  simp at e5
  subst e5
  obtain ⟨aa, ca, ad, rfl, l1, l2, l3⟩ := ints_cell g6
  obtain ⟨ab, cb, be, rfl, k1, k2, k3⟩ := ints_cell g7
  refine ⟨⟨up, sc, de, ga, b0, b1, b2, b3, lg, ad, be⟩, aa, ad.length, ca, ab, be.length, cb, ?_, ⟨w0, rfl, rfl, l2, k2, l1, k1, l3, k3⟩⟩
  cases cs
  simp only at hcs
  subst hcs
  rfl
end
end Go.Proofs.Ytkdnoemakclmdaa
