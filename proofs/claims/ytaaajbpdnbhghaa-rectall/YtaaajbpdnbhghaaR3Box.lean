/-
  A rectangle in a block of memory, and that it stays there.
-/
import Derived.Test.YtaaajbpdnbhghaaR3B
import Derived.Deep.Draws
import Derived.WalkSmall
import Derived.Deep.QuietTactic
import Derived.BigQuiet
namespace Go.Proofs.Ytaaajbpdnbhghaa
open Go.RowKit

/- the four numbers lie in block b -/
def Box4 (x : World) (b : Nat) (v0 v1 v2 v3 : Int) : Prop :=
  b < x.heap.size ∧ x.cell? ⟨b, 0, none⟩ = some (.int .i64 v0) ∧ x.cell? ⟨b, 1, none⟩ = some (.int .i64 v1) ∧ x.cell? ⟨b, 2, none⟩ = some (.int .i64 v2) ∧ x.cell? ⟨b, 3, none⟩ = some (.int .i64 v3)
theorem Box4.below {x y : World} {b : Nat} {v0 v1 v2 v3 : Int} (h : Box4 x b v0 v1 v2 v3) (hb : Below x.heap.size x y) : Box4 y b v0 v1 v2 v3 := by
  obtain ⟨h0, h1, h2, h3, h4⟩ := h
  exact ⟨Nat.lt_of_lt_of_le h0 hb.size, by rw [hb.cell (p := ⟨b, 0, none⟩) h0]; exact h1, by rw [hb.cell (p := ⟨b, 1, none⟩) h0]; exact h2, by rw [hb.cell (p := ⟨b, 2, none⟩) h0]; exact h3, by rw [hb.cell (p := ⟨b, 3, none⟩) h0]; exact h4⟩
theorem Box4.alloc {x : World} {b : Nat} {v0 v1 v2 v3 : Int} (h : Box4 x b v0 v1 v2 v3) (o : Obj) : Box4 (x.alloc o) b v0 v1 v2 v3 :=
  h.below ((Below.refl _ _).alloc (Nat.le_refl _) _)
theorem Box4.drewN {x : World} {b : Nat} {v0 v1 v2 v3 : Int} (h : Box4 x b v0 v1 v2 v3) (n : Nat) : Box4 (x.drewN n) b v0 v1 v2 v3 := h
theorem box4_new (x : World) (t : TypeId) (v0 v1 v2 v3 : Int) : Box4 (x.alloc (.cells #[.int .i64 v0, .int .i64 v1, .int .i64 v2, .int .i64 v3] t)) x.heap.size v0 v1 v2 v3 := by
  refine ⟨by simp, ?_, ?_, ?_, ?_⟩ <;> simp
theorem box4_at {x : World} {n : Nat} (h : n = x.heap.size) (t : TypeId) (v0 v1 v2 v3 : Int) : Box4 (x.alloc (.cells #[.int .i64 v0, .int .i64 v1, .int .i64 v2, .int .i64 v3] t)) n v0 v1 v2 v3 := by
  rw [h]; exact box4_new x t v0 v1 v2 v3
/- a call behind draws, held against an earlier world -/
theorem below_d {V a b x : World} (h : Below V.heap.size V a) (hx : Below b.heap.size b x) (e0 : b.os = a.os) (e1 : b.tape = a.tape) (e2 : b.output = a.output) (e3 : b.heap = a.heap) : Below V.heap.size V x :=
  h.trans ⟨hx.os.trans e0, hx.tape.trans e1, hx.output.trans e2, e3 ▸ hx.size, fun k hk => by rw [hx.block k (by rw [e3]; exact Nat.lt_of_lt_of_le hk h.size), e3]⟩
end Go.Proofs.Ytaaajbpdnbhghaa
