/-
  What the small functions of the reference answer: In, told, Add, Sub.
-/
import Derived.Test.YtehcpnbbgjinfaaBase
import Derived.WalkKit
import Derived.Outline
namespace Go.Proofs.Ytehcpnbbgjinfaa
open Go.RowKit

theorem rin_t (x : Int) (w : World) (h1 : -1099511627776 ≤ x) (h2 : x ≤ 1099511627776) :
    Calls Try.prog 42 #[.int .i64 x] w fun e w' => e = .returned (.bool true) ∧ w' = w := by
  go_enter Try.func42, Try.ntmps42
  go_wp2
  go_ret
  exact ⟨rfl, rfl⟩
theorem rin_lo (x : Int) (w : World) (h1 : x < -1099511627776) :
    Calls Try.prog 42 #[.int .i64 x] w fun e w' => e = .returned (.bool false) ∧ w' = w := by
  go_enter Try.func42, Try.ntmps42
  go_wp2
  go_ret
  exact ⟨rfl, rfl⟩
theorem rin_hi (x : Int) (w : World) (h1 : 1099511627776 < x) :
    Calls Try.prog 42 #[.int .i64 x] w fun e w' => e = .returned (.bool false) ∧ w' = w := by
  have h0 : -1099511627776 ≤ x := by omega
  have hd : decide (x ≤ 1099511627776) = false := by simp; omega
  go_enter Try.func42, Try.ntmps42
  go_wp2
  go_ret
  exact ⟨rfl, rfl⟩
theorem rin_any (x : Int) (w : World) :
    Calls Try.prog 42 #[.int .i64 x] w fun e w' => e = .returned (.bool (inB x)) ∧ w' = w := by
  by_cases h1 : -1099511627776 ≤ x
  · by_cases h2 : x ≤ 1099511627776
    · rw [inB_t h1 h2]; exact rin_t x w h1 h2
    · rw [inB_f (by omega)]; exact rin_hi x w (by omega)
  · rw [inB_f (by omega)]; exact rin_lo x w (by omega)

theorem told_any (x : Int) (w : World) :
    Calls Try.prog 55 #[.int .i64 x] w fun e w' => e = .returned (.tuple #[.int .i64 (tolV x), .bool (inB x)]) ∧ w' = w := by
  cases h : inB x
  · rw [tolV_f h]
    go_enter Try.func55, Try.ntmps55
    go_wp2_with (go_at_call 42; refine (rin_any _ _).mono ?_; rintro e w' ⟨rfl, rfl⟩)
    go_ret2
    exact ⟨rfl, rfl⟩
  · rw [tolV_t h]
    go_enter Try.func55, Try.ntmps55
    go_wp2_with (go_at_call 42; refine (rin_any _ _).mono ?_; rintro e w' ⟨rfl, rfl⟩)
    go_ret2
    exact ⟨rfl, rfl⟩

end Go.Proofs.Ytehcpnbbgjinfaa
