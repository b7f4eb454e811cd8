/-
  Rectangles in plain words: which may be, and what the functions answer.
-/
import Derived.Test.YthhhepbflggojaaDoorInB
namespace Go.Proofs.YthhhepbflggojaaDoor.R3
open Go.RowKit

def mayB (x0 y0 x1 y1 : Int) : Bool := inB x0 && inB y0 && inB x1 && inB y1 && decide (x0 ≤ x1) && decide (y0 ≤ y1)
theorem mayB_iff {x0 y0 x1 y1 : Int} : mayB x0 y0 x1 y1 = true ↔ (inB x0 = true ∧ inB y0 = true ∧ inB x1 = true ∧ inB y1 = true ∧ x0 ≤ x1 ∧ y0 ≤ y1) := by
  unfold mayB; simp only [Bool.and_eq_true, decide_eq_true_eq]; constructor
  · rintro ⟨⟨⟨⟨⟨a, b⟩, c⟩, d⟩, e⟩, f⟩; exact ⟨a, b, c, d, e, f⟩
  · rintro ⟨a, b, c, d, e, f⟩; exact ⟨⟨⟨⟨⟨a, b⟩, c⟩, d⟩, e⟩, f⟩
/- what an answer that may be is, and zero where it may not -/
def tl (b : Bool) (x : Int) : Int := if b = true then x else 0
theorem tl_t {b : Bool} {x : Int} (h : b = true) : tl b x = x := by unfold tl; rw [if_pos h]
theorem tl_f {b : Bool} {x : Int} (h : b = false) : tl b x = 0 := by unfold tl; rw [if_neg (by simp [h])]
theorem bcell {W w1 : World} (hb : Below W.heap.size W w1) : (∀ b o, b < W.heap.size → w1.cell? ⟨b, o, none⟩ = W.cell? ⟨b, o, none⟩) ∧ (∀ b o, b < W.heap.size → w1.frozen? ⟨b, o, none⟩ = W.frozen? ⟨b, o, none⟩) :=
  ⟨fun b o h => hb.cell (p := ⟨b, o, none⟩) h, fun b o h => hb.frozen (p := ⟨b, o, none⟩) h⟩
def meetQ (a0 a1 a2 a3 b0 b1 b2 b3 : Int) : Bool := mayB a0 a1 a2 a3 && mayB b0 b1 b2 b3 && mayB (max a0 b0) (max a1 b1) (min a2 b2) (min a3 b3)
def joinQ (a0 a1 a2 a3 b0 b1 b2 b3 : Int) : Bool := mayB a0 a1 a2 a3 && mayB b0 b1 b2 b3
def holdsQ (a0 a1 a2 a3 b0 b1 b2 b3 : Int) : Bool := mayB a0 a1 a2 a3 && mayB b0 b1 b2 b3 && decide (a0 ≤ b0) && decide (a1 ≤ b1) && decide (b2 ≤ a2) && decide (b3 ≤ a3)
def shiftQ (a0 a1 a2 a3 dx dy : Int) : Bool := mayB a0 a1 a2 a3 && inB dx && inB dy && mayB (a0 + dx) (a1 + dy) (a2 + dx) (a3 + dy)
def insetQ (a0 a1 a2 a3 d : Int) : Bool := mayB a0 a1 a2 a3 && inB d && mayB (a0 + d) (a1 + d) (a2 - d) (a3 - d)
theorem mayB_bd {x0 y0 x1 y1 : Int} (h : mayB x0 y0 x1 y1 = true) : (-1099511627776 ≤ x0 ∧ x0 ≤ 1099511627776) ∧ (-1099511627776 ≤ y0 ∧ y0 ≤ 1099511627776) ∧ (-1099511627776 ≤ x1 ∧ x1 ≤ 1099511627776) ∧ (-1099511627776 ≤ y1 ∧ y1 ≤ 1099511627776) ∧ x0 ≤ x1 ∧ y0 ≤ y1 := by
  obtain ⟨a, b, c, d, e, f⟩ := mayB_iff.1 h
  exact ⟨inB_bd a, inB_bd b, inB_bd c, inB_bd d, e, f⟩
theorem mayB_mk {x0 y0 x1 y1 : Int} (h : (-1099511627776 ≤ x0 ∧ x0 ≤ 1099511627776) ∧ (-1099511627776 ≤ y0 ∧ y0 ≤ 1099511627776) ∧ (-1099511627776 ≤ x1 ∧ x1 ≤ 1099511627776) ∧ (-1099511627776 ≤ y1 ∧ y1 ≤ 1099511627776) ∧ x0 ≤ x1 ∧ y0 ≤ y1) : mayB x0 y0 x1 y1 = true := by
  obtain ⟨a, b, c, d, e, f⟩ := h
  exact mayB_iff.2 ⟨inB_t a.1 a.2, inB_t b.1 b.2, inB_t c.1 c.2, inB_t d.1 d.2, e, f⟩
theorem join_may {a0 a1 a2 a3 b0 b1 b2 b3 : Int} (ha : mayB a0 a1 a2 a3 = true) (hb : mayB b0 b1 b2 b3 = true) : mayB (min a0 b0) (min a1 b1) (max a2 b2) (max a3 b3) = true := by
  have h1 := mayB_bd ha
  have h2 := mayB_bd hb
  exact mayB_mk (by omega)
/- nothing old has turned: behind new blocks, a call, and four stores into a new block -/
theorem below_in1 {w w1 : World} {o1 : Obj} (hb : Below (w.alloc o1).heap.size (w.alloc o1) w1) : Below w.heap.size w w1 :=
  ((Below.refl _ _).alloc (Nat.le_refl _) _).trans (hb.mono (by simp))
theorem below_in2 {w w1 : World} {o1 o2 : Obj} (hb : Below ((w.alloc o1).alloc o2).heap.size ((w.alloc o1).alloc o2) w1) : Below w.heap.size w w1 :=
  (((Below.refl _ _).alloc (Nat.le_refl _) _).alloc (by simp) _).trans (hb.mono (by simp; omega))
theorem below_in3 {w w1 : World} {o1 o2 o3 : Obj} (hb : Below (((w.alloc o1).alloc o2).alloc o3).heap.size (((w.alloc o1).alloc o2).alloc o3) w1) : Below w.heap.size w w1 :=
  ((((Below.refl _ _).alloc (Nat.le_refl _) _).alloc (by simp) _).alloc (by simp; omega) _).trans (hb.mono (by simp; omega))
theorem below_tr {w w1 w2 : World} (h1 : Below w.heap.size w w1) (h2 : Below w1.heap.size w1 w2) : Below w.heap.size w w2 := h1.trans (h2.mono h1.size)
theorem below_st4 {n : Nat} {w w1 : World} (hb : Below n w w1) {b : Nat} (h : n ≤ b) (v0 v1 v2 v3 : Value) :
    Below n w ((((w1.setCell ⟨b, 0, none⟩ v0).setCell ⟨b, 1, none⟩ v1).setCell ⟨b, 2, none⟩ v2).setCell ⟨b, 3, none⟩ v3) :=
  (((hb.setCell h _).setCell h _).setCell h _).setCell h _
end Go.Proofs.YthhhepbflggojaaDoor.R3
