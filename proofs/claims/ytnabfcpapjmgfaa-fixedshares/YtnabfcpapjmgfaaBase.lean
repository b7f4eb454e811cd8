/-
  What the small functions of fixed answer: In, ifIn, Add, Sub, and what wakes answers.
-/
import Derived.Test.YtnabfcpapjmgfaaProg
import Derived.WalkKit
import Derived.Outline
namespace Go.Proofs.Ytnabfcpapjmgfaa
open Go.RowKit

theorem hide {p : Prop} (h : p) : Hid p := h
theorem unhide {p : Prop} (h : Hid p) : p := h
def inB (x : Int) : Bool := decide (-1099511627776 ≤ x ∧ x ≤ 1099511627776)
def tolV (x : Int) : Int := if inB x = true then x else 0
theorem inB_t {x : Int} (h1 : -1099511627776 ≤ x) (h2 : x ≤ 1099511627776) : inB x = true := by unfold inB; simp [h1, h2]
theorem inB_f {x : Int} (h : ¬ (-1099511627776 ≤ x ∧ x ≤ 1099511627776)) : inB x = false := by unfold inB; simp only [decide_eq_false_iff_not]; exact h
theorem inB_bd {x : Int} (h : inB x = true) : -1099511627776 ≤ x ∧ x ≤ 1099511627776 := by unfold inB at h; simpa using h
theorem tolV_t {x : Int} (h : inB x = true) : tolV x = x := by unfold tolV; rw [if_pos h]
theorem tolV_f {x : Int} (h : inB x = false) : tolV x = 0 := by unfold tolV; rw [if_neg (by simp [h])]

theorem in_t (x : Int) (w : World) (h1 : -1099511627776 ≤ x) (h2 : x ≤ 1099511627776) :
    Calls Try.prog 13 #[.int .i64 x] w fun e w' => e = .returned (.bool true) ∧ w' = w := by
  go_enter Try.func13, Try.ntmps13
  go_wp2
  go_ret
  exact ⟨rfl, rfl⟩
theorem in_lo (x : Int) (w : World) (h1 : x < -1099511627776) :
    Calls Try.prog 13 #[.int .i64 x] w fun e w' => e = .returned (.bool false) ∧ w' = w := by
  go_enter Try.func13, Try.ntmps13
  go_wp2
  go_ret
  exact ⟨rfl, rfl⟩
theorem in_hi (x : Int) (w : World) (h1 : 1099511627776 < x) :
    Calls Try.prog 13 #[.int .i64 x] w fun e w' => e = .returned (.bool false) ∧ w' = w := by
  have h0 : -1099511627776 ≤ x := by omega
  have hd : decide (x ≤ 1099511627776) = false := by simp; omega
  go_enter Try.func13, Try.ntmps13
  go_wp2
  go_ret
  exact ⟨rfl, rfl⟩
theorem in_any (x : Int) (w : World) :
    Calls Try.prog 13 #[.int .i64 x] w fun e w' => e = .returned (.bool (inB x)) ∧ w' = w := by
  by_cases h1 : -1099511627776 ≤ x
  · by_cases h2 : x ≤ 1099511627776
    · rw [inB_t h1 h2]; exact in_t x w h1 h2
    · rw [inB_f (by omega)]; exact in_hi x w (by omega)
  · rw [inB_f (by omega)]; exact in_lo x w (by omega)

theorem ifIn_any (x : Int) (w : World) :
    Calls Try.prog 28 #[.int .i64 x] w fun e w' => e = .returned (.tuple #[.int .i64 (tolV x), .bool (inB x)]) ∧ w' = w := by
  cases h : inB x
  · rw [tolV_f h]
    go_enter Try.func28, Try.ntmps28
    go_wp2_with (go_at_call 13; refine (in_any _ _).mono ?_; rintro e w' ⟨rfl, rfl⟩)
    go_ret2
    exact ⟨rfl, rfl⟩
  · rw [tolV_t h]
    go_enter Try.func28, Try.ntmps28
    go_wp2_with (go_at_call 13; refine (in_any _ _).mono ?_; rintro e w' ⟨rfl, rfl⟩)
    go_ret2
    exact ⟨rfl, rfl⟩
/- Add and Sub: what both answer. -/
def sumV (a b s : Int) : Int := if inB a && inB b then tolV s else 0
def sumB (a b s : Int) : Bool := inB a && inB b && inB s

theorem add_any (a b : Int) (w : World) :
    Calls Try.prog 9 #[.int .i64 a, .int .i64 b] w fun e w' => e = .returned (.tuple #[.int .i64 (sumV a b (a + b)), .bool (sumB a b (a + b))]) ∧ w' = w := by
  cases ha : inB a
  · rw [show sumV a b (a + b) = 0 by simp [sumV, ha], show sumB a b (a + b) = false by simp [sumB, ha]]
    go_enter Try.func9, Try.ntmps9
    go_wp2_with (go_at_call 13; refine (in_any _ _).mono ?_; rintro e w' ⟨rfl, rfl⟩)
    go_ret2
    exact ⟨rfl, rfl⟩
  cases hb : inB b
  · rw [show sumV a b (a + b) = 0 by simp [sumV, hb], show sumB a b (a + b) = false by simp [sumB, hb]]
    go_enter Try.func9, Try.ntmps9
    go_wp2_with (go_at_call 13; refine (in_any _ _).mono ?_; rintro e w' ⟨rfl, rfl⟩)
    go_ret2
    exact ⟨rfl, rfl⟩
  · rw [show sumV a b (a + b) = tolV (a + b) by simp [sumV, ha, hb], show sumB a b (a + b) = inB (a + b) by simp [sumB, ha, hb]]
    have ba := inB_bd ha
    have bb := inB_bd hb
    go_enter Try.func9, Try.ntmps9
    go_wp2_with (first | (go_at_call 13; refine (in_any _ _).mono ?_; rintro e w' ⟨rfl, rfl⟩) | (go_at_call 28; refine (ifIn_any _ _).mono ?_; rintro e w' ⟨rfl, rfl⟩))
    go_ret2
    exact ⟨rfl, rfl⟩
theorem sub_any (a b : Int) (w : World) :
    Calls Try.prog 11 #[.int .i64 a, .int .i64 b] w fun e w' => e = .returned (.tuple #[.int .i64 (sumV a b (a - b)), .bool (sumB a b (a - b))]) ∧ w' = w := by
  cases ha : inB a
  · rw [show sumV a b (a - b) = 0 by simp [sumV, ha], show sumB a b (a - b) = false by simp [sumB, ha]]
    go_enter Try.func11, Try.ntmps11
    go_wp2_with (go_at_call 13; refine (in_any _ _).mono ?_; rintro e w' ⟨rfl, rfl⟩)
    go_ret2
    exact ⟨rfl, rfl⟩
  cases hb : inB b
  · rw [show sumV a b (a - b) = 0 by simp [sumV, hb], show sumB a b (a - b) = false by simp [sumB, hb]]
    go_enter Try.func11, Try.ntmps11
    go_wp2_with (go_at_call 13; refine (in_any _ _).mono ?_; rintro e w' ⟨rfl, rfl⟩)
    go_ret2
    exact ⟨rfl, rfl⟩
  · rw [show sumV a b (a - b) = tolV (a - b) by simp [sumV, ha, hb], show sumB a b (a - b) = inB (a - b) by simp [sumB, ha, hb]]
    have ba := inB_bd ha
    have bb := inB_bd hb
    go_enter Try.func11, Try.ntmps11
    go_wp2_with (first | (go_at_call 13; refine (in_any _ _).mono ?_; rintro e w' ⟨rfl, rfl⟩) | (go_at_call 28; refine (ifIn_any _ _).mono ?_; rintro e w' ⟨rfl, rfl⟩))
    go_ret2
    exact ⟨rfl, rfl⟩
theorem wakes_any (w : World) : Calls Try.prog 15 #[] w fun e w' => e = .returned (.bool true) ∧ w' = w := by
  have k1 : sumV 2 3 (2 + 3) = 5 := by decide
  have k2 : sumB 2 3 (2 + 3) = true := by decide
  have k3 : inB 1099511627776 = true := by decide
  have k4 : inB 1099511627777 = false := by decide
  go_enter Try.func15, Try.ntmps15
  go_wp2_with (first | (go_at_call 9; refine (add_any _ _ _).mono ?_; rintro e w' ⟨rfl, rfl⟩) | (go_at_call 13; refine (in_any _ _).mono ?_; rintro e w' ⟨rfl, rfl⟩))
  go_ret
  exact ⟨rfl, rfl⟩
end Go.Proofs.Ytnabfcpapjmgfaa
