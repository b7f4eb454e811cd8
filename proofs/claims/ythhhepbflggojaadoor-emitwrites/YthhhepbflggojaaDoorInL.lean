/-
  What fixed.In answers.
-/
import Derived.Test.YthhhepbflggojaaDoorInB
namespace Go.Proofs.YthhhepbflggojaaDoor
open Go.RowKit

theorem in_t (x : Int) (w : World) (h1 : -1099511627776 ≤ x) (h2 : x ≤ 1099511627776) :
    Calls Tryd.prog 40 #[.int .i64 x] w fun e w' => e = .returned (.bool true) ∧ w' = w := by
  go_enter Tryd.func40, Tryd.ntmps40
  go_wp2
  go_ret
  exact ⟨rfl, rfl⟩
theorem in_lo (x : Int) (w : World) (h1 : x < -1099511627776) :
    Calls Tryd.prog 40 #[.int .i64 x] w fun e w' => e = .returned (.bool false) ∧ w' = w := by
  go_enter Tryd.func40, Tryd.ntmps40
  go_wp2
  go_ret
  exact ⟨rfl, rfl⟩
theorem in_hi (x : Int) (w : World) (h1 : 1099511627776 < x) :
    Calls Tryd.prog 40 #[.int .i64 x] w fun e w' => e = .returned (.bool false) ∧ w' = w := by
  have h0 : -1099511627776 ≤ x := by omega
  have hd : decide (x ≤ 1099511627776) = false := by simp; omega
  go_enter Tryd.func40, Tryd.ntmps40
  go_wp2
  go_ret
  exact ⟨rfl, rfl⟩
theorem in_any (x : Int) (w : World) :
    Calls Tryd.prog 40 #[.int .i64 x] w fun e w' => e = .returned (.bool (inB x)) ∧ w' = w := by
  by_cases h1 : -1099511627776 ≤ x
  · by_cases h2 : x ≤ 1099511627776
    · rw [inB_t h1 h2]; exact in_t x w h1 h2
    · rw [inB_f (by omega)]; exact in_hi x w (by omega)
  · rw [inB_f (by omega)]; exact in_lo x w (by omega)
end Go.Proofs.YthhhepbflggojaaDoor
