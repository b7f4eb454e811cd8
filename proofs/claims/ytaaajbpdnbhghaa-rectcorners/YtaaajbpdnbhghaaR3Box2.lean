/-
  Two ints in a block of memory, and that they stay there.
-/
import Derived.Test.YtaaajbpdnbhghaaR3Box
namespace Go.Proofs.Ytaaajbpdnbhghaa
open Go.RowKit

def Box2 (x : World) (b : Nat) (v0 v1 : Int) : Prop :=
  b < x.heap.size ∧ x.cell? ⟨b, 0, none⟩ = some (.int .i64 v0) ∧ x.cell? ⟨b, 1, none⟩ = some (.int .i64 v1)
theorem Box2.below {x y : World} {b : Nat} {v0 v1 : Int} (h : Box2 x b v0 v1) (hb : Below x.heap.size x y) : Box2 y b v0 v1 := by
  obtain ⟨h0, h1, h2⟩ := h
  exact ⟨Nat.lt_of_lt_of_le h0 hb.size, by rw [hb.cell (p := ⟨b, 0, none⟩) h0]; exact h1, by rw [hb.cell (p := ⟨b, 1, none⟩) h0]; exact h2⟩
theorem Box2.alloc {x : World} {b : Nat} {v0 v1 : Int} (h : Box2 x b v0 v1) (o : Obj) : Box2 (x.alloc o) b v0 v1 :=
  h.below ((Below.refl _ _).alloc (Nat.le_refl _) _)
theorem box2_at {x : World} {n : Nat} (h : n = x.heap.size) (t : TypeId) (v0 v1 : Int) : Box2 (x.alloc (.cells #[.int .i64 v0, .int .i64 v1] t)) n v0 v1 := by
  rw [h]
  refine ⟨by simp, ?_, ?_⟩ <;> simp

theorem Box2.drewN {x : World} {b : Nat} {v0 v1 : Int} (h : Box2 x b v0 v1) (n : Nat) : Box2 (x.drewN n) b v0 v1 := h
end Go.Proofs.Ytaaajbpdnbhghaa
