/-
  A slice of ints that came in, as a list in memory.
-/
import Derived.Test.YtnabfcpapjmgfaaKeep
import Derived.OpenShut
namespace Go.Proofs.Ytnabfcpapjmgfaa
open Go.ChangeShapes Go.WideShapes Go.RowKit

theorem cell_lt {w : World} {b o : Nat} {v : Value} (h : w.cell? ⟨b, o, none⟩ = some v) : b < w.heap.size := by
  by_cases hb : b < w.heap.size
  · exact hb
  · unfold World.cell? at h
    rw [Array.getElem?_eq_none (by show w.heap.size ≤ b; omega)] at h
    simp at h

/- nil, or a row of 'cap' cells: its first 'len' are the list -/
theorem lst_of_row (w : World) (a : Option Addr) (len cap : Nat) (zs : List Int)
    (h : (a = none ∧ len = 0 ∧ cap = 0 ∧ zs = []) ∨
      ∃ x, a = some x ∧ len ≤ cap ∧ cap ≤ maxLen ∧ zs.length = cap ∧ (∀ i, i < zs.length → w.cell? (x.add i) = some (.int .i64 (zs.getD i 0))) ∧ ∀ n ∈ zs, (Lit.int .i64 n).wf = true) :
    (zs.take len).length = len ∧ len ≤ cap ∧ cap ≤ 9223372036854775807 ∧ Lst w a (zs.take len) ∧ ∀ n ∈ zs.take len, -9223372036854775808 ≤ n ∧ n ≤ 9223372036854775807 := by
  rcases h with ⟨h1, h2, h3, h4⟩ | ⟨x, h1, h2, h3, h4, h5, h6⟩
  · subst h2 h4
    exact ⟨rfl, by omega, by omega, Or.inl rfl, by simp⟩
  · refine ⟨by rw [List.length_take]; omega, h2, by unfold maxLen at h3; exact h3, ?_, fun n hn => bounds_i64 (h6 n (List.mem_of_mem_take hn))⟩
    by_cases hz : zs.length = 0
    · rw [List.eq_nil_of_length_eq_zero hz]; exact Or.inl (by simp)
    · obtain ⟨b, off, rfl, hc⟩ := ints_at h5 (by omega)
      have : Lst w a zs := Or.inr ⟨b, off, h1, cell_lt (hc 0 (by omega)), hc⟩
      exact this.take len
end Go.Proofs.Ytnabfcpapjmgfaa
