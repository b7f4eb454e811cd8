/-
  A slice of ints that came in, as a list in memory.
-/
import Derived.Test.YtncmkiejamkklabDoorU4Keep
import Derived.ProofKit
import Derived.OpenShut
import Derived.ChangeSlices
import Derived.Deep.Slices
namespace Go.Proofs.YtncmkiejamkklabDoor
open Go.ChangeShapes Go.WideShapes Go.RowKit

def ZRow (w : World) (a : Option Addr) (len cap : Nat) (zs : List Int) : Prop := zs.length = len ∧ len ≤ cap ∧ cap ≤ 9223372036854775807 ∧ Lst w a zs ∧ ∀ n ∈ zs, -9223372036854775808 ≤ n ∧ n ≤ 9223372036854775807
theorem cell_lt3 {w : World} {b o : Nat} {v : Value} (h : w.cell? ⟨b, o, none⟩ = some v) : b < w.heap.size := by
  by_cases hb : b < w.heap.size
  · exact hb
  · unfold World.cell? at h
    rw [Array.getElem?_eq_none (by show w.heap.size ≤ b; omega)] at h
    simp at h
section
variable {H : Type} {enc : TypeId × Value → H} {W : World} {r : Reach} {base b0 : Nat} {sp : Nat → Bool} {held : Bool} {v : Value} {d : DataW H} {p : List MemPlace}
theorem open_zs (hv : Value.okWide Tryd.prog W r b0 22 v) (h : DataW.Trod enc Tryd.prog W base sp held 22 v d p) :
    ∃ a len cap zs, v = .slice a len cap ∧ ZRow W a len cap zs := by
  obtain ⟨a, len, cap, rfl⟩ := okWide_slice Tryd.underlying22 hv
  obtain ⟨fuel, hf⟩ := h
  rcases open_ints Tryd.underlying22 Tryd.underlying3 (by kernel_rfl) hf with ⟨hcs, _⟩ | ⟨x, len', cap', zs, hcs, _, hl, hm, hzl, _, hc, hw⟩
  · simp [Value.cells] at hcs
    obtain ⟨rfl, rfl, rfl⟩ := hcs
    exact ⟨none, 0, 0, [], rfl, rfl, by omega, by omega, Or.inl rfl, by simp⟩
  · simp [Value.cells] at hcs
    obtain ⟨rfl, rfl, rfl⟩ := hcs
    have hlz : len ≤ zs.length := by rw [hzl]; split <;> omega
    refine ⟨some x, len, cap, zs.take len, rfl, by rw [List.length_take]; omega, hl, by unfold maxLen at hm; exact hm, ?_, fun n hn => bounds_i64 (hw n (List.mem_of_mem_take hn))⟩
    by_cases hz : zs.length = 0
    · rw [List.eq_nil_of_length_eq_zero hz]; exact Or.inl (by simp)
    · obtain ⟨b, off, rfl, hc'⟩ := ints_at hc (by omega)
      have : Lst W (some ⟨b, off, none⟩) zs := Or.inr ⟨b, off, rfl, cell_lt3 (hc' 0 (by omega)), hc'⟩
      exact this.take len
end
end Go.Proofs.YtncmkiejamkklabDoor
