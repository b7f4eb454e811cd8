/-
  Joined: U4Cls.
-/
import Derived.Outline
import Derived.Test.YtpmdekhjodhdmaaDoorProg
import Derived.WalkKit
import Derived.Test.YtpmdekhjodhdmaaDoorR00
import Derived.Test.YtpmdekhjodhdmaaDoorR01
namespace Go.Proofs.YtpmdekhjodhdmaaDoor
open Go.RowKit
def win (c a b : Int) : Bool := decide (a ≤ c ∧ c ≤ b)
theorem win_t {c a b : Int} (h : a ≤ c ∧ c ≤ b) : win c a b = true := decide_eq_true h
theorem win_f {c a b : Int} (h : ¬ (a ≤ c ∧ c ≤ b)) : win c a b = false := decide_eq_false h
theorem within_any (c a b : Int) (w : World) :
    Calls Tryd.prog 84 #[.int .i64 c, .int .i64 a, .int .i64 b] w fun e w' => e = .returned (.bool (win c a b)) ∧ w' = w := by
  by_cases h1 : a ≤ c
  · by_cases h2 : c ≤ b
    · rw [win_t ⟨h1, h2⟩]
      go_enter Tryd.func84, Tryd.ntmps84
      go_wp2
      go_ret
      exact ⟨rfl, rfl⟩
    · rw [win_f (by omega)]
      have hd : decide (c ≤ b) = false := by simp; omega
      go_enter Tryd.func84, Tryd.ntmps84
      go_wp2
      go_ret
      exact ⟨rfl, rfl⟩
  · rw [win_f (by omega)]
    have hd : decide (a ≤ c) = false := by simp; omega
    go_enter Tryd.func84, Tryd.ntmps84
    go_wp2
    go_ret
    exact ⟨rfl, rfl⟩
theorem point_any (c : Int) (w : World) :
    Calls Tryd.prog 82 #[.int .i64 c] w fun e w' => e = .returned (.bool (isP c)) ∧ w' = w := by
  cases h1 : win c 0 1114111
  · rw [isP_f.2 (by unfold win at h1; simp at h1; omega)]
    go_enter Tryd.func82, Tryd.ntmps82
    go_wp2_with (go_at_call 84; refine (within_any _ _ _ _).mono ?_; rintro e w' ⟨rfl, rfl⟩)
    go_ret
    exact ⟨rfl, rfl⟩
  · cases h2 : win c 55296 57343
    · rw [isP_t.2 (by unfold win at h1 h2; simp at h1 h2; omega)]
      go_enter Tryd.func82, Tryd.ntmps82
      go_wp2_with (go_at_call 84; refine (within_any _ _ _ _).mono ?_; rintro e w' ⟨rfl, rfl⟩)
      go_ret
      exact ⟨rfl, rfl⟩
    · rw [isP_f.2 (by unfold win at h1 h2; simp at h1 h2; omega)]
      go_enter Tryd.func82, Tryd.ntmps82
      go_wp2_with (go_at_call 84; refine (within_any _ _ _ _).mono ?_; rintro e w' ⟨rfl, rfl⟩)
      go_ret
      exact ⟨rfl, rfl⟩
def letB (c : Int) : Bool := decide ((65 ≤ c ∧ c ≤ 90) ∨ (97 ≤ c ∧ c ≤ 122) ∨ (192 ≤ c ∧ c ≤ 255 ∧ c ≠ 215 ∧ c ≠ 247))
theorem letter_any (c : Int) (w : World) :
    Calls Tryd.prog 83 #[.int .i64 c] w fun e w' => e = .returned (.bool (letB c)) ∧ w' = w := by
  obtain ⟨L, hL⟩ : ∃ L, letB c = L := ⟨_, rfl⟩
  rw [hL]
  have HL := hide hL
  clear hL
  cases h1 : win c 65 90 <;> cases h2 : win c 97 122 <;> cases h3 : win c 192 255 <;> cases h4 : (c != 215) <;> cases h5 : (c != 247)
  all_goals
    go_enter Tryd.func83, Tryd.ntmps83
    go_wp2_with (go_at_call 84; refine (within_any _ _ _ _).mono ?_; rintro e w' ⟨rfl, rfl⟩)
    go_ret
    refine ⟨?_, rfl⟩
    have hl := HL.out
    rw [← hl]
    clear HL hl
    unfold win at *
    unfold letB
    simp only [decide_eq_true_eq, decide_eq_false_iff_not, bne_iff_ne, bne_eq_false_iff_eq, ne_eq] at *
    first
      | (rw [decide_eq_true (by omega)] <;> rfl)
      | (rw [decide_eq_false (by omega)] <;> rfl)
def blkB (c : Int) : Bool := decide (c = 9 ∨ c = 10 ∨ c = 13 ∨ c = 32)
def clsV (c : Int) : Int := if isP c = false then 0 else if blkB c then 1 else if letB c then 2 else if win c 48 57 then 3 else if decide (c < 32) || win c 127 159 then 4 else 5
theorem class_any (c : Int) (w : World) :
    Calls Tryd.prog 70 #[.int .i64 c] w fun e w' => e = .returned (.int .i64 (clsV c)) ∧ w' = w := by
  unfold clsV
  cases h1 : isP c
  · rw [if_pos rfl]
    go_enter Tryd.func70, Tryd.ntmps70
    go_wp2_with (go_at_call 82; refine (point_any _ _).mono ?_; rintro e w' ⟨rfl, rfl⟩)
    go_ret
    exact ⟨rfl, rfl⟩
  rw [if_neg (by simp)]
  cases h2 : blkB c
  · have b1 : (c == 9) = false := by unfold blkB at h2; simp at h2; simp; omega
    have b2 : (c == 10) = false := by unfold blkB at h2; simp at h2; simp; omega
    have b3 : (c == 13) = false := by unfold blkB at h2; simp at h2; simp; omega
    have b4 : (c == 32) = false := by unfold blkB at h2; simp at h2; simp; omega
    rw [if_neg (by simp)]
    cases h3 : letB c <;> cases h4 : win c 48 57 <;> cases h5 : decide (c < 32) <;> cases h6 : win c 127 159
    all_goals
      go_enter Tryd.func70, Tryd.ntmps70
      go_wp2_with (first | (go_at_call 82; refine (point_any _ _).mono ?_; rintro e w' ⟨rfl, rfl⟩) | (go_at_call 84; refine (within_any _ _ _ _).mono ?_; rintro e w' ⟨rfl, rfl⟩) | (go_at_call 83; refine (letter_any _ _).mono ?_; rintro e w' ⟨rfl, rfl⟩))
      go_ret
      exact ⟨rfl, rfl⟩
  · rw [if_pos rfl]
    have way : c = 9 ∨ c = 10 ∨ c = 13 ∨ c = 32 := by unfold blkB at h2; simpa using h2
    rcases way with rfl | rfl | rfl | rfl
    all_goals
      go_enter Tryd.func70, Tryd.ntmps70
      go_wp2_with (first | (go_at_call 82; refine (point_any _ _).mono ?_; rintro e w' ⟨rfl, rfl⟩))
      go_ret
      exact ⟨rfl, rfl⟩
end Go.Proofs.YtpmdekhjodhdmaaDoor
