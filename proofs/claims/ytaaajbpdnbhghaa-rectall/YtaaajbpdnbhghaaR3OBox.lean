/-
  A rectangle in a block of the call's own, which may be written.
-/
import Derived.Test.YtaaajbpdnbhghaaR3Box
namespace Go.Proofs.Ytaaajbpdnbhghaa
open Go.RowKit

def OBox (x : World) (b : Nat) (v0 v1 v2 v3 : Int) : Prop := Box4 x b v0 v1 v2 v3 ∧ ∀ k, x.frozen? ⟨b, k, none⟩ = false
theorem OBox.below {x y : World} {b : Nat} {v0 v1 v2 v3 : Int} (h : OBox x b v0 v1 v2 v3) (hb : Below x.heap.size x y) : OBox y b v0 v1 v2 v3 :=
  ⟨h.1.below hb, fun k => by rw [hb.frozen (p := ⟨b, k, none⟩) h.1.1]; exact h.2 k⟩
theorem OBox.alloc {x : World} {b : Nat} {v0 v1 v2 v3 : Int} (h : OBox x b v0 v1 v2 v3) (o : Obj) : OBox (x.alloc o) b v0 v1 v2 v3 :=
  h.below ((Below.refl _ _).alloc (Nat.le_refl _) _)
theorem OBox.drewN {x : World} {b : Nat} {v0 v1 v2 v3 : Int} (h : OBox x b v0 v1 v2 v3) (n : Nat) : OBox (x.drewN n) b v0 v1 v2 v3 := h
theorem obox_at {x : World} {n : Nat} (h : n = x.heap.size) (t : TypeId) (v0 v1 v2 v3 : Int) : OBox (x.alloc (.cells #[.int .i64 v0, .int .i64 v1, .int .i64 v2, .int .i64 v3] t)) n v0 v1 v2 v3 :=
  ⟨box4_at h t v0 v1 v2 v3, fun k => by rw [h]; simp⟩
/- one store, into another place -/
theorem cell_set_ne {x : World} {b c i j : Nat} (h : ¬ (b = c ∧ i = j)) (u : Value) : (x.setCell ⟨c, j, none⟩ u).cell? ⟨b, i, none⟩ = x.cell? ⟨b, i, none⟩ :=
  World.cell?_setCell_other _ _ _ _ (by intro e; injection e with e1 e2; exact h ⟨e1.symm, e2.symm⟩)
theorem cell_set_eq {x : World} {b i : Nat} {u v : Value} (h : x.cell? ⟨b, i, none⟩ = some v) : (x.setCell ⟨b, i, none⟩ u).cell? ⟨b, i, none⟩ = some u :=
  World.cell?_setCell_same _ _ _ h
theorem size_set (x : World) (a : Addr) (u : Value) : (x.setCell a u).heap.size = x.heap.size := by simp [World.setCell]
/- four stores into another block -/
theorem OBox.st4 {x : World} {b c : Nat} {v0 v1 v2 v3 : Int} (h : OBox x b v0 v1 v2 v3) (hne : b ≠ c) (u0 u1 u2 u3 : Value) :
    OBox ((((x.setCell ⟨c, 0, none⟩ u0).setCell ⟨c, 1, none⟩ u1).setCell ⟨c, 2, none⟩ u2).setCell ⟨c, 3, none⟩ u3) b v0 v1 v2 v3 := by
  obtain ⟨⟨g0, g1, g2, g3, g4⟩, g5⟩ := h
  have k : ∀ i j : Nat, ¬ (b = c ∧ i = j) := fun i j e => hne e.1
  refine ⟨⟨by rw [size_set, size_set, size_set, size_set]; exact g0, ?_, ?_, ?_, ?_⟩, fun k => by simpa using g5 k⟩
  · rw [cell_set_ne (k _ _), cell_set_ne (k _ _), cell_set_ne (k _ _), cell_set_ne (k _ _)]; exact g1
  · rw [cell_set_ne (k _ _), cell_set_ne (k _ _), cell_set_ne (k _ _), cell_set_ne (k _ _)]; exact g2
  · rw [cell_set_ne (k _ _), cell_set_ne (k _ _), cell_set_ne (k _ _), cell_set_ne (k _ _)]; exact g3
  · rw [cell_set_ne (k _ _), cell_set_ne (k _ _), cell_set_ne (k _ _), cell_set_ne (k _ _)]; exact g4
/- four stores into this one -/
theorem OBox.put4 {x : World} {b : Nat} {v0 v1 v2 v3 : Int} (h : OBox x b v0 v1 v2 v3) (u0 u1 u2 u3 : Int) :
    OBox ((((x.setCell ⟨b, 0, none⟩ (.int .i64 u0)).setCell ⟨b, 1, none⟩ (.int .i64 u1)).setCell ⟨b, 2, none⟩ (.int .i64 u2)).setCell ⟨b, 3, none⟩ (.int .i64 u3)) b u0 u1 u2 u3 := by
  obtain ⟨⟨g0, g1, g2, g3, g4⟩, g5⟩ := h
  refine ⟨⟨by rw [size_set, size_set, size_set, size_set]; exact g0, ?_, ?_, ?_, ?_⟩, fun k => by simpa using g5 k⟩
  · rw [cell_set_ne (by omega), cell_set_ne (by omega), cell_set_ne (by omega)]; exact cell_set_eq g1
  · rw [cell_set_ne (by omega), cell_set_ne (by omega)]; exact cell_set_eq (by rw [cell_set_ne (by omega)]; exact g2)
  · rw [cell_set_ne (by omega)]; exact cell_set_eq (by rw [cell_set_ne (by omega), cell_set_ne (by omega)]; exact g3)
  · exact cell_set_eq (by rw [cell_set_ne (by omega), cell_set_ne (by omega), cell_set_ne (by omega)]; exact g4)
end Go.Proofs.Ytaaajbpdnbhghaa
