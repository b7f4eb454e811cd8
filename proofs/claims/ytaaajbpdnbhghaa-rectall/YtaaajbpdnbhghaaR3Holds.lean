/-
  What rect's Holds answers.
-/
import Derived.Test.YtaaajbpdnbhghaaR3May
namespace Go.Proofs.Ytaaajbpdnbhghaa
open Go.RowKit

theorem holds_any (a0 a1 a2 a3 b0 b1 b2 b3 : Int) (w : World) :
    Calls Try.prog 13 #[.agg #[.int .i64 a0, .int .i64 a1, .int .i64 a2, .int .i64 a3], .agg #[.int .i64 b0, .int .i64 b1, .int .i64 b2, .int .i64 b3]] w fun e w' => e = .returned (.bool (holdsQ a0 a1 a2 a3 b0 b1 b2 b3)) ∧ Below w.heap.size w w' := by
  cases ha : mayB a0 a1 a2 a3
  · rw [show holdsQ a0 a1 a2 a3 b0 b1 b2 b3 = false by simp only [holdsQ, ha, Bool.false_and]]
    go_enter Try.func13, Try.ntmps13
    go_wp2_with fail
    refine (may_any _ _ _ _ _).mono ?_; rintro e w1 ⟨rfl, hb⟩; obtain ⟨hc, hf⟩ := bcell hb
    go_wp2_with fail
    go_ret
    exact ⟨rfl, below_in2 hb⟩
  cases hB : mayB b0 b1 b2 b3
  · rw [show holdsQ a0 a1 a2 a3 b0 b1 b2 b3 = false by simp only [holdsQ, hB, Bool.and_false, Bool.false_and]]
    go_enter Try.func13, Try.ntmps13
    go_wp2_with fail
    refine (may_any _ _ _ _ _).mono ?_; rintro e w1 ⟨rfl, hb⟩; obtain ⟨hc, hf⟩ := bcell hb
    go_wp2_with fail
    refine (may_any _ _ _ _ _).mono ?_; rintro e w1 ⟨rfl, hb2⟩; replace hb := below_tr hb hb2; clear hb2 hc hf; obtain ⟨hc, hf⟩ := bcell hb
    go_wp2_with fail
    go_ret
    exact ⟨rfl, below_in2 hb⟩
  cases h1 : decide (a0 ≤ b0)
  · rw [show holdsQ a0 a1 a2 a3 b0 b1 b2 b3 = false by simp only [holdsQ, h1, Bool.and_false, Bool.false_and]]
    go_enter Try.func13, Try.ntmps13
    go_wp2_with fail
    refine (may_any _ _ _ _ _).mono ?_; rintro e w1 ⟨rfl, hb⟩; obtain ⟨hc, hf⟩ := bcell hb
    go_wp2_with fail
    refine (may_any _ _ _ _ _).mono ?_; rintro e w1 ⟨rfl, hb2⟩; replace hb := below_tr hb hb2; clear hb2 hc hf; obtain ⟨hc, hf⟩ := bcell hb
    go_wp2_with fail
    go_ret
    exact ⟨rfl, below_in2 hb⟩
  cases h2 : decide (a1 ≤ b1)
  · rw [show holdsQ a0 a1 a2 a3 b0 b1 b2 b3 = false by simp only [holdsQ, h2, Bool.and_false, Bool.false_and]]
    go_enter Try.func13, Try.ntmps13
    go_wp2_with fail
    refine (may_any _ _ _ _ _).mono ?_; rintro e w1 ⟨rfl, hb⟩; obtain ⟨hc, hf⟩ := bcell hb
    go_wp2_with fail
    refine (may_any _ _ _ _ _).mono ?_; rintro e w1 ⟨rfl, hb2⟩; replace hb := below_tr hb hb2; clear hb2 hc hf; obtain ⟨hc, hf⟩ := bcell hb
    go_wp2_with fail
    go_ret
    exact ⟨rfl, below_in2 hb⟩
  cases h3 : decide (b2 ≤ a2)
  · rw [show holdsQ a0 a1 a2 a3 b0 b1 b2 b3 = false by simp only [holdsQ, h3, Bool.and_false, Bool.false_and]]
    go_enter Try.func13, Try.ntmps13
    go_wp2_with fail
    refine (may_any _ _ _ _ _).mono ?_; rintro e w1 ⟨rfl, hb⟩; obtain ⟨hc, hf⟩ := bcell hb
    go_wp2_with fail
    refine (may_any _ _ _ _ _).mono ?_; rintro e w1 ⟨rfl, hb2⟩; replace hb := below_tr hb hb2; clear hb2 hc hf; obtain ⟨hc, hf⟩ := bcell hb
    go_wp2_with fail
    go_ret
    exact ⟨rfl, below_in2 hb⟩
  cases h4 : decide (b3 ≤ a3)
  · rw [show holdsQ a0 a1 a2 a3 b0 b1 b2 b3 = false by simp only [holdsQ, h4, Bool.and_false]]
    go_enter Try.func13, Try.ntmps13
    go_wp2_with fail
    refine (may_any _ _ _ _ _).mono ?_; rintro e w1 ⟨rfl, hb⟩; obtain ⟨hc, hf⟩ := bcell hb
    go_wp2_with fail
    refine (may_any _ _ _ _ _).mono ?_; rintro e w1 ⟨rfl, hb2⟩; replace hb := below_tr hb hb2; clear hb2 hc hf; obtain ⟨hc, hf⟩ := bcell hb
    go_wp2_with fail
    go_ret
    exact ⟨rfl, below_in2 hb⟩
  rw [show holdsQ a0 a1 a2 a3 b0 b1 b2 b3 = true by simp only [holdsQ, ha, hB, h1, h2, h3, h4, Bool.and_true]]
  go_enter Try.func13, Try.ntmps13
  go_wp2_with fail
  refine (may_any _ _ _ _ _).mono ?_; rintro e w1 ⟨rfl, hb⟩; obtain ⟨hc, hf⟩ := bcell hb
  go_wp2_with fail
  refine (may_any _ _ _ _ _).mono ?_; rintro e w1 ⟨rfl, hb2⟩; replace hb := below_tr hb hb2; clear hb2 hc hf; obtain ⟨hc, hf⟩ := bcell hb
  go_wp2_with fail
  go_ret
  exact ⟨rfl, below_in2 hb⟩
end Go.Proofs.Ytaaajbpdnbhghaa
