/-
  What rect.May answers.
-/
import Derived.Test.YthhhepbflggojaaDoorR3B
import Derived.Test.YthhhepbflggojaaDoorInL
namespace Go.Proofs.YthhhepbflggojaaDoor.R3
open Go.RowKit

theorem may_any (x0 y0 x1 y1 : Int) (w : World) :
    Calls Tryd.prog 44 #[.agg #[.int .i64 x0, .int .i64 y0, .int .i64 x1, .int .i64 y1]] w fun e w' => e = .returned (.bool (mayB x0 y0 x1 y1)) ∧ Below w.heap.size w w' := by
  have hB : Below w.heap.size w (w.alloc (.cells #[.int .i64 x0, .int .i64 y0, .int .i64 x1, .int .i64 y1] 36)) := (Below.refl _ _).alloc (Nat.le_refl _) _
  have hB := hide hB
  have hM : mayB x0 y0 x1 y1 = (inB x0 && inB y0 && inB x1 && inB y1 && decide (x0 ≤ x1) && decide (y0 ≤ y1)) := rfl
  have hM := hide hM
  cases h0 : inB x0
  · go_enter Tryd.func44, Tryd.ntmps44
    go_wp2_with (go_at_call 40; refine (in_any _ _).mono ?_; rintro e w' ⟨rfl, rfl⟩)
    go_ret
    refine ⟨?_, hB.out⟩
    rw [hM.out, h0]; simp
  cases h1 : inB y0
  · go_enter Tryd.func44, Tryd.ntmps44
    go_wp2_with (go_at_call 40; refine (in_any _ _).mono ?_; rintro e w' ⟨rfl, rfl⟩)
    go_ret
    refine ⟨?_, hB.out⟩
    rw [hM.out, h0, h1]; simp
  cases h2 : inB x1
  · go_enter Tryd.func44, Tryd.ntmps44
    go_wp2_with (go_at_call 40; refine (in_any _ _).mono ?_; rintro e w' ⟨rfl, rfl⟩)
    go_ret
    refine ⟨?_, hB.out⟩
    rw [hM.out, h0, h1, h2]; simp
  cases h3 : inB y1
  · go_enter Tryd.func44, Tryd.ntmps44
    go_wp2_with (go_at_call 40; refine (in_any _ _).mono ?_; rintro e w' ⟨rfl, rfl⟩)
    go_ret
    refine ⟨?_, hB.out⟩
    rw [hM.out, h0, h1, h2, h3]; simp
  cases h4 : decide (x0 ≤ x1)
  · go_enter Tryd.func44, Tryd.ntmps44
    go_wp2_with (go_at_call 40; refine (in_any _ _).mono ?_; rintro e w' ⟨rfl, rfl⟩)
    go_ret
    refine ⟨?_, hB.out⟩
    rw [hM.out, h0, h1, h2, h3, h4]; simp
  cases h5 : decide (y0 ≤ y1)
  · go_enter Tryd.func44, Tryd.ntmps44
    go_wp2_with (go_at_call 40; refine (in_any _ _).mono ?_; rintro e w' ⟨rfl, rfl⟩)
    go_ret
    refine ⟨?_, hB.out⟩
    rw [hM.out, h0, h1, h2, h3, h4, h5]; simp
  · go_enter Tryd.func44, Tryd.ntmps44
    go_wp2_with (go_at_call 40; refine (in_any _ _).mono ?_; rintro e w' ⟨rfl, rfl⟩)
    go_ret
    refine ⟨?_, hB.out⟩
    rw [hM.out, h0, h1, h2, h3, h4, h5]; simp
end Go.Proofs.YthhhepbflggojaaDoor.R3
