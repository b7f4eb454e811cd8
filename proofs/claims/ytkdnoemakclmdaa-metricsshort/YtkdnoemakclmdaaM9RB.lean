/-
  What the reference's short, zeros, two, Good answer.
-/
import Derived.Test.YtkdnoemakclmdaaM9Sam
import Derived.Laws.Concat
namespace Go.Proofs.Ytkdnoemakclmdaa
open Go.RowKit Go.Deep
set_option linter.unusedVariables false

theorem make_u8 (n : Nat) (hn : n ≤ 100000) (x : World) : (Instr.makeSlice 35 (.int .i64 (n : Int)) (.int .i64 (n : Int))).run Try.prog x = .ok (.slice (some ⟨x.heap.size, 0, none⟩) n n) (x.alloc (.cells (bcs (zers n)) 5)) := by
  obtain ⟨i0, hi, hz0, hz1, hz2⟩ := info_parts5 info_u8
  have h := run_make (P := Try.prog) x 35 5 i0 (.int .u8 0) Try.underlying35 hi hz0 .i64 .i64 n n (by omega) (Int.le_refl _) (by rw [hz2]; omega) (by omega)
  rw [hz1] at h
  simp only [Int.toNat_natCast, Nat.mul_one] at h
  have e : madeCells (Value.int .u8 0).cells n = bcs (zers n) := by
    apply Array.ext (by simp [madeCells, bcs, zers])
    intro j h1 h2
    simp [madeCells, Value.cells, Nat.mod_one, bcs, zers, bcell]
  rw [e] at h
  exact h
theorem blk_text {w : World} {g L : Nat} {ys : List UInt8} (h : Blk w g (bcs ys) 5) (hL : ys.length = L) :
    (convert 35 9 (.slice (some ⟨g, 0, none⟩) L L)).run Try.prog w = .ok (.string ⟨ys.toArray⟩) w := by
  subst hL
  refine run_convert_bytes_back (P := Try.prog) w 35 9 5 ⟨g, 0, none⟩ ys.length ys Try.underlying35 Try.underlying5 Try.underlying9 ?_
  intro k hk
  rw [Go.WideShapes.add_plain, Nat.zero_add, h.cell k, bcs_at ys k hk]
  rfl
end Go.Proofs.Ytkdnoemakclmdaa
