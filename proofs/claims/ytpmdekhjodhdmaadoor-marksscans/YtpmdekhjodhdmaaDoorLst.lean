/-
  Lists of ints in memory.
-/
import Derived.Test.YtpmdekhjodhdmaaDoorProg
import Derived.Test.YtpmdekhjodhdmaaDoorHide
import Derived.WalkKit
import Derived.Outline
import Derived.Deep.Draws
import Derived.WalkSmall
namespace Go.Proofs.YtpmdekhjodhdmaaDoor
open Go.RowKit

/- the list zs lies at the address a (whatever a is, where the list is empty) -/
def Lst (w : World) (a : Option Addr) (zs : List Int) : Prop :=
  zs = [] ∨ ∃ b off, a = some ⟨b, off, none⟩ ∧ b < w.heap.size ∧ ∀ i, i < zs.length → w.cell? ⟨b, off + i, none⟩ = some (.int .i64 (zs.getD i 0))

theorem Lst.below {w w' : World} {a : Option Addr} {zs : List Int} (h : Lst w a zs) (hb : Below w.heap.size w w') : Lst w' a zs := by
  rcases h with h | ⟨b, off, h1, h2, h3⟩
  · exact Or.inl h
  · exact Or.inr ⟨b, off, h1, Nat.lt_of_lt_of_le h2 hb.size, fun i hi => by rw [hb.cell (p := ⟨b, off + i, none⟩) h2]; exact h3 i hi⟩
theorem Lst.drewN {w : World} {a : Option Addr} {zs : List Int} (h : Lst w a zs) (n : Nat) : Lst (w.drewN n) a zs := h
theorem Lst.take {w : World} {a : Option Addr} {zs : List Int} (h : Lst w a zs) (n : Nat) : Lst w a (zs.take n) := by
  rcases h with h | ⟨b, off, h1, h2, h3⟩
  · exact Or.inl (by rw [h]; simp)
  · refine Or.inr ⟨b, off, h1, h2, fun i hi => ?_⟩
    rw [List.length_take] at hi
    rw [h3 i (by omega), List.getD_eq_getElem?_getD, List.getD_eq_getElem?_getD, List.getElem?_take, if_pos (by omega)]
theorem below_drewN' (w : World) (n : Nat) : Below w.heap.size w (w.drewN n) := below_drewN (Below.refl _ _) n
end Go.Proofs.YtpmdekhjodhdmaaDoor
