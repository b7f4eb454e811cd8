/-
  Joined: U4Cls, U4RCls.
-/
import Derived.Outline
import Derived.Test.YtpmdekhjodhdmaaDoorProg
import Derived.WalkKit
import Derived.Test.YtpmdekhjodhdmaaDoorP00
import Derived.Test.YtpmdekhjodhdmaaDoorP01
namespace Go.Proofs.YtpmdekhjodhdmaaDoor
open Go.RowKit
def win (c a b : Int) : Bool := decide (a ≤ c ∧ c ≤ b)
theorem win_t {c a b : Int} (h : a ≤ c ∧ c ≤ b) : win c a b = true := decide_eq_true h
theorem win_f {c a b : Int} (h : ¬ (a ≤ c ∧ c ≤ b)) : win c a b = false := decide_eq_false h
theorem within_any (c a b : Int) (w : World) :
    Calls Tryd.prog 84 #[.int .i64 c, .int .i64 a, .int .i64 b] w fun e w' => e = .returned (.bool (win c a b)) ∧ w' = w := by
  by_cases h1 : a ≤ c
  · by_cases h2 : c ≤ b
    · rw [win_t ⟨h1, h2⟩]
      go_enter Tryd.func84, Tryd.ntmps84
      go_wp2
      go_ret
      exact ⟨rfl, rfl⟩
    · rw [win_f (by omega)]
      have hd : decide (c ≤ b) = false := by simp; omega
      go_enter Tryd.func84, Tryd.ntmps84
      go_wp2
      go_ret
      exact ⟨rfl, rfl⟩
  · rw [win_f (by omega)]
    have hd : decide (a ≤ c) = false := by simp; omega
    go_enter Tryd.func84, Tryd.ntmps84
    go_wp2
    go_ret
    exact ⟨rfl, rfl⟩
theorem point_any (c : Int) (w : World) :
    Calls Tryd.prog 82 #[.int .i64 c] w fun e w' => e = .returned (.bool (isP c)) ∧ w' = w := by
  cases h1 : win c 0 1114111
  · rw [isP_f.2 (by unfold win at h1; simp at h1; omega)]
    go_enter Tryd.func82, Tryd.ntmps82
    go_wp2_with (go_at_call 84; refine (within_any _ _ _ _).mono ?_; rintro e w' ⟨rfl, rfl⟩)
    go_ret
    exact ⟨rfl, rfl⟩
  · cases h2 : win c 55296 57343
    · rw [isP_t.2 (by unfold win at h1 h2; simp at h1 h2; omega)]
      go_enter Tryd.func82, Tryd.ntmps82
      go_wp2_with (go_at_call 84; refine (within_any _ _ _ _).mono ?_; rintro e w' ⟨rfl, rfl⟩)
      go_ret
      exact ⟨rfl, rfl⟩
    · rw [isP_f.2 (by unfold win at h1 h2; simp at h1 h2; omega)]
      go_enter Tryd.func82, Tryd.ntmps82
      go_wp2_with (go_at_call 84; refine (within_any _ _ _ _).mono ?_; rintro e w' ⟨rfl, rfl⟩)
      go_ret
      exact ⟨rfl, rfl⟩
def letB (c : Int) : Bool := decide ((65 ≤ c ∧ c ≤ 90) ∨ (97 ≤ c ∧ c ≤ 122) ∨ (192 ≤ c ∧ c ≤ 255 ∧ c ≠ 215 ∧ c ≠ 247))
theorem letter_any (c : Int) (w : World) :
    Calls Tryd.prog 83 #[.int .i64 c] w fun e w' => e = .returned (.bool (letB c)) ∧ w' = w := by
  obtain ⟨L, hL⟩ : ∃ L, letB c = L := ⟨_, rfl⟩
  rw [hL]
  have HL := hide hL
  clear hL
  cases h1 : win c 65 90 <;> cases h2 : win c 97 122 <;> cases h3 : win c 192 255 <;> cases h4 : (c != 215) <;> cases h5 : (c != 247)
  all_goals
    go_enter Tryd.func83, Tryd.ntmps83
    go_wp2_with (go_at_call 84; refine (within_any _ _ _ _).mono ?_; rintro e w' ⟨rfl, rfl⟩)
    go_ret
    refine ⟨?_, rfl⟩
    have hl := HL.out
    rw [← hl]
    clear HL hl
    unfold win at *
    unfold letB
    simp only [decide_eq_true_eq, decide_eq_false_iff_not, bne_iff_ne, bne_eq_false_iff_eq, ne_eq] at *
    first
      | (rw [decide_eq_true (by omega)] <;> rfl)
      | (rw [decide_eq_false (by omega)] <;> rfl)
def blkB (c : Int) : Bool := decide (c = 9 ∨ c = 10 ∨ c = 13 ∨ c = 32)
def clsV (c : Int) : Int := if isP c = false then 0 else if blkB c then 1 else if letB c then 2 else if win c 48 57 then 3 else if decide (c < 32) || win c 127 159 then 4 else 5
theorem class_any (c : Int) (w : World) :
    Calls Tryd.prog 70 #[.int .i64 c] w fun e w' => e = .returned (.int .i64 (clsV c)) ∧ w' = w := by
  unfold clsV
  cases h1 : isP c
  · rw [if_pos rfl]
    go_enter Tryd.func70, Tryd.ntmps70
    go_wp2_with (go_at_call 82; refine (point_any _ _).mono ?_; rintro e w' ⟨rfl, rfl⟩)
    go_ret
    exact ⟨rfl, rfl⟩
  rw [if_neg (by simp)]
  cases h2 : blkB c
  · have b1 : (c == 9) = false := by unfold blkB at h2; simp at h2; simp; omega
    have b2 : (c == 10) = false := by unfold blkB at h2; simp at h2; simp; omega
    have b3 : (c == 13) = false := by unfold blkB at h2; simp at h2; simp; omega
    have b4 : (c == 32) = false := by unfold blkB at h2; simp at h2; simp; omega
    rw [if_neg (by simp)]
    cases h3 : letB c <;> cases h4 : win c 48 57 <;> cases h5 : decide (c < 32) <;> cases h6 : win c 127 159
    all_goals
      go_enter Tryd.func70, Tryd.ntmps70
      go_wp2_with (first | (go_at_call 82; refine (point_any _ _).mono ?_; rintro e w' ⟨rfl, rfl⟩) | (go_at_call 84; refine (within_any _ _ _ _).mono ?_; rintro e w' ⟨rfl, rfl⟩) | (go_at_call 83; refine (letter_any _ _).mono ?_; rintro e w' ⟨rfl, rfl⟩))
      go_ret
      exact ⟨rfl, rfl⟩
  · rw [if_pos rfl]
    have way : c = 9 ∨ c = 10 ∨ c = 13 ∨ c = 32 := by unfold blkB at h2; simpa using h2
    rcases way with rfl | rfl | rfl | rfl
    all_goals
      go_enter Tryd.func70, Tryd.ntmps70
      go_wp2_with (first | (go_at_call 82; refine (point_any _ _).mono ?_; rintro e w' ⟨rfl, rfl⟩))
      go_ret
      exact ⟨rfl, rfl⟩
end Go.Proofs.YtpmdekhjodhdmaaDoor
namespace Go.Proofs.YtpmdekhjodhdmaaDoor
open Go.RowKit
set_option linter.unusedVariables false
theorem is_any (c : Int) (w : World) :
    Calls Tryd.prog 37 #[.int .i64 c] w fun e w' => e = .returned (.bool (isP c)) ∧ w' = w := by
  by_cases h1 : 0 ≤ c
  · by_cases h2 : c ≤ 1114111
    · by_cases h3 : c < 55296
      · rw [isP_t.2 (by omega)]
        go_enter Tryd.func37, Tryd.ntmps37
        go_wp2
        go_ret
        exact ⟨rfl, rfl⟩
      · have h3' : decide (c < 55296) = false := by simp; omega
        by_cases h4 : 57343 < c
        · rw [isP_t.2 (by omega)]
          go_enter Tryd.func37, Tryd.ntmps37
          go_wp2
          go_ret
          exact ⟨rfl, rfl⟩
        · have h4' : decide (57343 < c) = false := by simp; omega
          rw [isP_f.2 (by omega)]
          go_enter Tryd.func37, Tryd.ntmps37
          go_wp2
          go_ret
          exact ⟨rfl, rfl⟩
    · have h2' : decide (c ≤ 1114111) = false := by simp; omega
      rw [isP_f.2 (by omega)]
      go_enter Tryd.func37, Tryd.ntmps37
      go_wp2
      go_ret
      exact ⟨rfl, rfl⟩
  · have h1' : decide (0 ≤ c) = false := by simp; omega
    rw [isP_f.2 (by omega)]
    go_enter Tryd.func37, Tryd.ntmps37
    go_wp2
    go_ret
    exact ⟨rfl, rfl⟩
theorem rclass_0 (c : Int) (w : World) (hp : isP c = true) (hb : blkB c = false) (h2 : c ≤ 31) :
    Calls Tryd.prog 34 #[.int .i64 c] w fun e w' => e = .returned (.int .i64 4) ∧ w' = w := by
  have b1 : (c == 9) = false := by unfold blkB at hb; simp at hb; simp; omega
  have b2 : (c == 10) = false := by unfold blkB at hb; simp at hb; simp; omega
  have b3 : (c == 13) = false := by unfold blkB at hb; simp at hb; simp; omega
  have b4 : (c == 32) = false := by unfold blkB at hb; simp at hb; simp; omega
  have ge65 : decide (65 ≤ c) = false := by simp; omega
  have le90 : decide (c ≤ 90) = true := by simp; omega
  have ge97 : decide (97 ≤ c) = false := by simp; omega
  have le122 : decide (c ≤ 122) = true := by simp; omega
  have ge192 : decide (192 ≤ c) = false := by simp; omega
  have le255 : decide (c ≤ 255) = true := by simp; omega
  have ne215 : (c != 215) = true := by simp; omega
  have ne247 : (c != 247) = true := by simp; omega
  have ge48 : decide (48 ≤ c) = false := by simp; omega
  have le57 : decide (c ≤ 57) = true := by simp; omega
  have lt32 : decide (c < 32) = true := by simp; omega
  have ge127 : decide (127 ≤ c) = false := by simp; omega
  have le159 : decide (c ≤ 159) = true := by simp; omega
  clear hb h2
  go_enter Tryd.func34, Tryd.ntmps34
  go_wp2_with (go_at_call 37; refine (is_any _ _).mono ?_; rintro e w' ⟨rfl, rfl⟩)
  go_ret
  exact ⟨rfl, rfl⟩
theorem rclass_1 (c : Int) (w : World) (hp : isP c = true) (hb : blkB c = false) (h1 : 33 ≤ c) (h2 : c ≤ 47) :
    Calls Tryd.prog 34 #[.int .i64 c] w fun e w' => e = .returned (.int .i64 5) ∧ w' = w := by
  have b1 : (c == 9) = false := by unfold blkB at hb; simp at hb; simp; omega
  have b2 : (c == 10) = false := by unfold blkB at hb; simp at hb; simp; omega
  have b3 : (c == 13) = false := by unfold blkB at hb; simp at hb; simp; omega
  have b4 : (c == 32) = false := by unfold blkB at hb; simp at hb; simp; omega
  have ge65 : decide (65 ≤ c) = false := by simp; omega
  have le90 : decide (c ≤ 90) = true := by simp; omega
  have ge97 : decide (97 ≤ c) = false := by simp; omega
  have le122 : decide (c ≤ 122) = true := by simp; omega
  have ge192 : decide (192 ≤ c) = false := by simp; omega
  have le255 : decide (c ≤ 255) = true := by simp; omega
  have ne215 : (c != 215) = true := by simp; omega
  have ne247 : (c != 247) = true := by simp; omega
  have ge48 : decide (48 ≤ c) = false := by simp; omega
  have le57 : decide (c ≤ 57) = true := by simp; omega
  have lt32 : decide (c < 32) = false := by simp; omega
  have ge127 : decide (127 ≤ c) = false := by simp; omega
  have le159 : decide (c ≤ 159) = true := by simp; omega
  clear hb h1 h2
  go_enter Tryd.func34, Tryd.ntmps34
  go_wp2_with (go_at_call 37; refine (is_any _ _).mono ?_; rintro e w' ⟨rfl, rfl⟩)
  go_ret
  exact ⟨rfl, rfl⟩
theorem rclass_2 (c : Int) (w : World) (hp : isP c = true) (hb : blkB c = false) (h1 : 48 ≤ c) (h2 : c ≤ 57) :
    Calls Tryd.prog 34 #[.int .i64 c] w fun e w' => e = .returned (.int .i64 3) ∧ w' = w := by
  have b1 : (c == 9) = false := by unfold blkB at hb; simp at hb; simp; omega
  have b2 : (c == 10) = false := by unfold blkB at hb; simp at hb; simp; omega
  have b3 : (c == 13) = false := by unfold blkB at hb; simp at hb; simp; omega
  have b4 : (c == 32) = false := by unfold blkB at hb; simp at hb; simp; omega
  have ge65 : decide (65 ≤ c) = false := by simp; omega
  have le90 : decide (c ≤ 90) = true := by simp; omega
  have ge97 : decide (97 ≤ c) = false := by simp; omega
  have le122 : decide (c ≤ 122) = true := by simp; omega
  have ge192 : decide (192 ≤ c) = false := by simp; omega
  have le255 : decide (c ≤ 255) = true := by simp; omega
  have ne215 : (c != 215) = true := by simp; omega
  have ne247 : (c != 247) = true := by simp; omega
  have ge48 : decide (48 ≤ c) = true := by simp; omega
  have le57 : decide (c ≤ 57) = true := by simp; omega
  have lt32 : decide (c < 32) = false := by simp; omega
  have ge127 : decide (127 ≤ c) = false := by simp; omega
  have le159 : decide (c ≤ 159) = true := by simp; omega
  clear hb h1 h2
  go_enter Tryd.func34, Tryd.ntmps34
  go_wp2_with (go_at_call 37; refine (is_any _ _).mono ?_; rintro e w' ⟨rfl, rfl⟩)
  go_ret
  exact ⟨rfl, rfl⟩
theorem rclass_3 (c : Int) (w : World) (hp : isP c = true) (hb : blkB c = false) (h1 : 58 ≤ c) (h2 : c ≤ 64) :
    Calls Tryd.prog 34 #[.int .i64 c] w fun e w' => e = .returned (.int .i64 5) ∧ w' = w := by
  have b1 : (c == 9) = false := by unfold blkB at hb; simp at hb; simp; omega
  have b2 : (c == 10) = false := by unfold blkB at hb; simp at hb; simp; omega
  have b3 : (c == 13) = false := by unfold blkB at hb; simp at hb; simp; omega
  have b4 : (c == 32) = false := by unfold blkB at hb; simp at hb; simp; omega
  have ge65 : decide (65 ≤ c) = false := by simp; omega
  have le90 : decide (c ≤ 90) = true := by simp; omega
  have ge97 : decide (97 ≤ c) = false := by simp; omega
  have le122 : decide (c ≤ 122) = true := by simp; omega
  have ge192 : decide (192 ≤ c) = false := by simp; omega
  have le255 : decide (c ≤ 255) = true := by simp; omega
  have ne215 : (c != 215) = true := by simp; omega
  have ne247 : (c != 247) = true := by simp; omega
  have ge48 : decide (48 ≤ c) = true := by simp; omega
  have le57 : decide (c ≤ 57) = false := by simp; omega
  have lt32 : decide (c < 32) = false := by simp; omega
  have ge127 : decide (127 ≤ c) = false := by simp; omega
  have le159 : decide (c ≤ 159) = true := by simp; omega
  clear hb h1 h2
  go_enter Tryd.func34, Tryd.ntmps34
  go_wp2_with (go_at_call 37; refine (is_any _ _).mono ?_; rintro e w' ⟨rfl, rfl⟩)
  go_ret
  exact ⟨rfl, rfl⟩
theorem rclass_4 (c : Int) (w : World) (hp : isP c = true) (hb : blkB c = false) (h1 : 65 ≤ c) (h2 : c ≤ 90) :
    Calls Tryd.prog 34 #[.int .i64 c] w fun e w' => e = .returned (.int .i64 2) ∧ w' = w := by
  have b1 : (c == 9) = false := by unfold blkB at hb; simp at hb; simp; omega
  have b2 : (c == 10) = false := by unfold blkB at hb; simp at hb; simp; omega
  have b3 : (c == 13) = false := by unfold blkB at hb; simp at hb; simp; omega
  have b4 : (c == 32) = false := by unfold blkB at hb; simp at hb; simp; omega
  have ge65 : decide (65 ≤ c) = true := by simp; omega
  have le90 : decide (c ≤ 90) = true := by simp; omega
  have ge97 : decide (97 ≤ c) = false := by simp; omega
  have le122 : decide (c ≤ 122) = true := by simp; omega
  have ge192 : decide (192 ≤ c) = false := by simp; omega
  have le255 : decide (c ≤ 255) = true := by simp; omega
  have ne215 : (c != 215) = true := by simp; omega
  have ne247 : (c != 247) = true := by simp; omega
  have ge48 : decide (48 ≤ c) = true := by simp; omega
  have le57 : decide (c ≤ 57) = false := by simp; omega
  have lt32 : decide (c < 32) = false := by simp; omega
  have ge127 : decide (127 ≤ c) = false := by simp; omega
  have le159 : decide (c ≤ 159) = true := by simp; omega
  clear hb h1 h2
  go_enter Tryd.func34, Tryd.ntmps34
  go_wp2_with (go_at_call 37; refine (is_any _ _).mono ?_; rintro e w' ⟨rfl, rfl⟩)
  go_ret
  exact ⟨rfl, rfl⟩
theorem rclass_5 (c : Int) (w : World) (hp : isP c = true) (hb : blkB c = false) (h1 : 91 ≤ c) (h2 : c ≤ 96) :
    Calls Tryd.prog 34 #[.int .i64 c] w fun e w' => e = .returned (.int .i64 5) ∧ w' = w := by
  have b1 : (c == 9) = false := by unfold blkB at hb; simp at hb; simp; omega
  have b2 : (c == 10) = false := by unfold blkB at hb; simp at hb; simp; omega
  have b3 : (c == 13) = false := by unfold blkB at hb; simp at hb; simp; omega
  have b4 : (c == 32) = false := by unfold blkB at hb; simp at hb; simp; omega
  have ge65 : decide (65 ≤ c) = true := by simp; omega
  have le90 : decide (c ≤ 90) = false := by simp; omega
  have ge97 : decide (97 ≤ c) = false := by simp; omega
  have le122 : decide (c ≤ 122) = true := by simp; omega
  have ge192 : decide (192 ≤ c) = false := by simp; omega
  have le255 : decide (c ≤ 255) = true := by simp; omega
  have ne215 : (c != 215) = true := by simp; omega
  have ne247 : (c != 247) = true := by simp; omega
  have ge48 : decide (48 ≤ c) = true := by simp; omega
  have le57 : decide (c ≤ 57) = false := by simp; omega
  have lt32 : decide (c < 32) = false := by simp; omega
  have ge127 : decide (127 ≤ c) = false := by simp; omega
  have le159 : decide (c ≤ 159) = true := by simp; omega
  clear hb h1 h2
  go_enter Tryd.func34, Tryd.ntmps34
  go_wp2_with (go_at_call 37; refine (is_any _ _).mono ?_; rintro e w' ⟨rfl, rfl⟩)
  go_ret
  exact ⟨rfl, rfl⟩
theorem rclass_6 (c : Int) (w : World) (hp : isP c = true) (hb : blkB c = false) (h1 : 97 ≤ c) (h2 : c ≤ 122) :
    Calls Tryd.prog 34 #[.int .i64 c] w fun e w' => e = .returned (.int .i64 2) ∧ w' = w := by
  have b1 : (c == 9) = false := by unfold blkB at hb; simp at hb; simp; omega
  have b2 : (c == 10) = false := by unfold blkB at hb; simp at hb; simp; omega
  have b3 : (c == 13) = false := by unfold blkB at hb; simp at hb; simp; omega
  have b4 : (c == 32) = false := by unfold blkB at hb; simp at hb; simp; omega
  have ge65 : decide (65 ≤ c) = true := by simp; omega
  have le90 : decide (c ≤ 90) = false := by simp; omega
  have ge97 : decide (97 ≤ c) = true := by simp; omega
  have le122 : decide (c ≤ 122) = true := by simp; omega
  have ge192 : decide (192 ≤ c) = false := by simp; omega
  have le255 : decide (c ≤ 255) = true := by simp; omega
  have ne215 : (c != 215) = true := by simp; omega
  have ne247 : (c != 247) = true := by simp; omega
  have ge48 : decide (48 ≤ c) = true := by simp; omega
  have le57 : decide (c ≤ 57) = false := by simp; omega
  have lt32 : decide (c < 32) = false := by simp; omega
  have ge127 : decide (127 ≤ c) = false := by simp; omega
  have le159 : decide (c ≤ 159) = true := by simp; omega
  clear hb h1 h2
  go_enter Tryd.func34, Tryd.ntmps34
  go_wp2_with (go_at_call 37; refine (is_any _ _).mono ?_; rintro e w' ⟨rfl, rfl⟩)
  go_ret
  exact ⟨rfl, rfl⟩
theorem rclass_7 (c : Int) (w : World) (hp : isP c = true) (hb : blkB c = false) (h1 : 123 ≤ c) (h2 : c ≤ 126) :
    Calls Tryd.prog 34 #[.int .i64 c] w fun e w' => e = .returned (.int .i64 5) ∧ w' = w := by
  have b1 : (c == 9) = false := by unfold blkB at hb; simp at hb; simp; omega
  have b2 : (c == 10) = false := by unfold blkB at hb; simp at hb; simp; omega
  have b3 : (c == 13) = false := by unfold blkB at hb; simp at hb; simp; omega
  have b4 : (c == 32) = false := by unfold blkB at hb; simp at hb; simp; omega
  have ge65 : decide (65 ≤ c) = true := by simp; omega
  have le90 : decide (c ≤ 90) = false := by simp; omega
  have ge97 : decide (97 ≤ c) = true := by simp; omega
  have le122 : decide (c ≤ 122) = false := by simp; omega
  have ge192 : decide (192 ≤ c) = false := by simp; omega
  have le255 : decide (c ≤ 255) = true := by simp; omega
  have ne215 : (c != 215) = true := by simp; omega
  have ne247 : (c != 247) = true := by simp; omega
  have ge48 : decide (48 ≤ c) = true := by simp; omega
  have le57 : decide (c ≤ 57) = false := by simp; omega
  have lt32 : decide (c < 32) = false := by simp; omega
  have ge127 : decide (127 ≤ c) = false := by simp; omega
  have le159 : decide (c ≤ 159) = true := by simp; omega
  clear hb h1 h2
  go_enter Tryd.func34, Tryd.ntmps34
  go_wp2_with (go_at_call 37; refine (is_any _ _).mono ?_; rintro e w' ⟨rfl, rfl⟩)
  go_ret
  exact ⟨rfl, rfl⟩
theorem rclass_8 (c : Int) (w : World) (hp : isP c = true) (hb : blkB c = false) (h1 : 127 ≤ c) (h2 : c ≤ 159) :
    Calls Tryd.prog 34 #[.int .i64 c] w fun e w' => e = .returned (.int .i64 4) ∧ w' = w := by
  have b1 : (c == 9) = false := by unfold blkB at hb; simp at hb; simp; omega
  have b2 : (c == 10) = false := by unfold blkB at hb; simp at hb; simp; omega
  have b3 : (c == 13) = false := by unfold blkB at hb; simp at hb; simp; omega
  have b4 : (c == 32) = false := by unfold blkB at hb; simp at hb; simp; omega
  have ge65 : decide (65 ≤ c) = true := by simp; omega
  have le90 : decide (c ≤ 90) = false := by simp; omega
  have ge97 : decide (97 ≤ c) = true := by simp; omega
  have le122 : decide (c ≤ 122) = false := by simp; omega
  have ge192 : decide (192 ≤ c) = false := by simp; omega
  have le255 : decide (c ≤ 255) = true := by simp; omega
  have ne215 : (c != 215) = true := by simp; omega
  have ne247 : (c != 247) = true := by simp; omega
  have ge48 : decide (48 ≤ c) = true := by simp; omega
  have le57 : decide (c ≤ 57) = false := by simp; omega
  have lt32 : decide (c < 32) = false := by simp; omega
  have ge127 : decide (127 ≤ c) = true := by simp; omega
  have le159 : decide (c ≤ 159) = true := by simp; omega
  clear hb h1 h2
  go_enter Tryd.func34, Tryd.ntmps34
  go_wp2_with (go_at_call 37; refine (is_any _ _).mono ?_; rintro e w' ⟨rfl, rfl⟩)
  go_ret
  exact ⟨rfl, rfl⟩
theorem rclass_9 (c : Int) (w : World) (hp : isP c = true) (hb : blkB c = false) (h1 : 160 ≤ c) (h2 : c ≤ 191) :
    Calls Tryd.prog 34 #[.int .i64 c] w fun e w' => e = .returned (.int .i64 5) ∧ w' = w := by
  have b1 : (c == 9) = false := by unfold blkB at hb; simp at hb; simp; omega
  have b2 : (c == 10) = false := by unfold blkB at hb; simp at hb; simp; omega
  have b3 : (c == 13) = false := by unfold blkB at hb; simp at hb; simp; omega
  have b4 : (c == 32) = false := by unfold blkB at hb; simp at hb; simp; omega
  have ge65 : decide (65 ≤ c) = true := by simp; omega
  have le90 : decide (c ≤ 90) = false := by simp; omega
  have ge97 : decide (97 ≤ c) = true := by simp; omega
  have le122 : decide (c ≤ 122) = false := by simp; omega
  have ge192 : decide (192 ≤ c) = false := by simp; omega
  have le255 : decide (c ≤ 255) = true := by simp; omega
  have ne215 : (c != 215) = true := by simp; omega
  have ne247 : (c != 247) = true := by simp; omega
  have ge48 : decide (48 ≤ c) = true := by simp; omega
  have le57 : decide (c ≤ 57) = false := by simp; omega
  have lt32 : decide (c < 32) = false := by simp; omega
  have ge127 : decide (127 ≤ c) = true := by simp; omega
  have le159 : decide (c ≤ 159) = false := by simp; omega
  clear hb h1 h2
  go_enter Tryd.func34, Tryd.ntmps34
  go_wp2_with (go_at_call 37; refine (is_any _ _).mono ?_; rintro e w' ⟨rfl, rfl⟩)
  go_ret
  exact ⟨rfl, rfl⟩
theorem rclass_10 (c : Int) (w : World) (hp : isP c = true) (hb : blkB c = false) (h1 : 192 ≤ c) (h2 : c ≤ 214) :
    Calls Tryd.prog 34 #[.int .i64 c] w fun e w' => e = .returned (.int .i64 2) ∧ w' = w := by
  have b1 : (c == 9) = false := by unfold blkB at hb; simp at hb; simp; omega
  have b2 : (c == 10) = false := by unfold blkB at hb; simp at hb; simp; omega
  have b3 : (c == 13) = false := by unfold blkB at hb; simp at hb; simp; omega
  have b4 : (c == 32) = false := by unfold blkB at hb; simp at hb; simp; omega
  have ge65 : decide (65 ≤ c) = true := by simp; omega
  have le90 : decide (c ≤ 90) = false := by simp; omega
  have ge97 : decide (97 ≤ c) = true := by simp; omega
  have le122 : decide (c ≤ 122) = false := by simp; omega
  have ge192 : decide (192 ≤ c) = true := by simp; omega
  have le255 : decide (c ≤ 255) = true := by simp; omega
  have ne215 : (c != 215) = true := by simp; omega
  have ne247 : (c != 247) = true := by simp; omega
  have ge48 : decide (48 ≤ c) = true := by simp; omega
  have le57 : decide (c ≤ 57) = false := by simp; omega
  have lt32 : decide (c < 32) = false := by simp; omega
  have ge127 : decide (127 ≤ c) = true := by simp; omega
  have le159 : decide (c ≤ 159) = false := by simp; omega
  clear hb h1 h2
  go_enter Tryd.func34, Tryd.ntmps34
  go_wp2_with (go_at_call 37; refine (is_any _ _).mono ?_; rintro e w' ⟨rfl, rfl⟩)
  go_ret
  exact ⟨rfl, rfl⟩
theorem rclass_11 (c : Int) (w : World) (hp : isP c = true) (hb : blkB c = false) (h1 : 215 ≤ c) (h2 : c ≤ 215) :
    Calls Tryd.prog 34 #[.int .i64 c] w fun e w' => e = .returned (.int .i64 5) ∧ w' = w := by
  have b1 : (c == 9) = false := by unfold blkB at hb; simp at hb; simp; omega
  have b2 : (c == 10) = false := by unfold blkB at hb; simp at hb; simp; omega
  have b3 : (c == 13) = false := by unfold blkB at hb; simp at hb; simp; omega
  have b4 : (c == 32) = false := by unfold blkB at hb; simp at hb; simp; omega
  have ge65 : decide (65 ≤ c) = true := by simp; omega
  have le90 : decide (c ≤ 90) = false := by simp; omega
  have ge97 : decide (97 ≤ c) = true := by simp; omega
  have le122 : decide (c ≤ 122) = false := by simp; omega
  have ge192 : decide (192 ≤ c) = true := by simp; omega
  have le255 : decide (c ≤ 255) = true := by simp; omega
  have ne215 : (c != 215) = false := by simp; omega
  have ne247 : (c != 247) = true := by simp; omega
  have ge48 : decide (48 ≤ c) = true := by simp; omega
  have le57 : decide (c ≤ 57) = false := by simp; omega
  have lt32 : decide (c < 32) = false := by simp; omega
  have ge127 : decide (127 ≤ c) = true := by simp; omega
  have le159 : decide (c ≤ 159) = false := by simp; omega
  clear hb h1 h2
  go_enter Tryd.func34, Tryd.ntmps34
  go_wp2_with (go_at_call 37; refine (is_any _ _).mono ?_; rintro e w' ⟨rfl, rfl⟩)
  go_ret
  exact ⟨rfl, rfl⟩
theorem rclass_12 (c : Int) (w : World) (hp : isP c = true) (hb : blkB c = false) (h1 : 216 ≤ c) (h2 : c ≤ 246) :
    Calls Tryd.prog 34 #[.int .i64 c] w fun e w' => e = .returned (.int .i64 2) ∧ w' = w := by
  have b1 : (c == 9) = false := by unfold blkB at hb; simp at hb; simp; omega
  have b2 : (c == 10) = false := by unfold blkB at hb; simp at hb; simp; omega
  have b3 : (c == 13) = false := by unfold blkB at hb; simp at hb; simp; omega
  have b4 : (c == 32) = false := by unfold blkB at hb; simp at hb; simp; omega
  have ge65 : decide (65 ≤ c) = true := by simp; omega
  have le90 : decide (c ≤ 90) = false := by simp; omega
  have ge97 : decide (97 ≤ c) = true := by simp; omega
  have le122 : decide (c ≤ 122) = false := by simp; omega
  have ge192 : decide (192 ≤ c) = true := by simp; omega
  have le255 : decide (c ≤ 255) = true := by simp; omega
  have ne215 : (c != 215) = true := by simp; omega
  have ne247 : (c != 247) = true := by simp; omega
  have ge48 : decide (48 ≤ c) = true := by simp; omega
  have le57 : decide (c ≤ 57) = false := by simp; omega
  have lt32 : decide (c < 32) = false := by simp; omega
  have ge127 : decide (127 ≤ c) = true := by simp; omega
  have le159 : decide (c ≤ 159) = false := by simp; omega
  clear hb h1 h2
  go_enter Tryd.func34, Tryd.ntmps34
  go_wp2_with (go_at_call 37; refine (is_any _ _).mono ?_; rintro e w' ⟨rfl, rfl⟩)
  go_ret
  exact ⟨rfl, rfl⟩
theorem rclass_13 (c : Int) (w : World) (hp : isP c = true) (hb : blkB c = false) (h1 : 247 ≤ c) (h2 : c ≤ 247) :
    Calls Tryd.prog 34 #[.int .i64 c] w fun e w' => e = .returned (.int .i64 5) ∧ w' = w := by
  have b1 : (c == 9) = false := by unfold blkB at hb; simp at hb; simp; omega
  have b2 : (c == 10) = false := by unfold blkB at hb; simp at hb; simp; omega
  have b3 : (c == 13) = false := by unfold blkB at hb; simp at hb; simp; omega
  have b4 : (c == 32) = false := by unfold blkB at hb; simp at hb; simp; omega
  have ge65 : decide (65 ≤ c) = true := by simp; omega
  have le90 : decide (c ≤ 90) = false := by simp; omega
  have ge97 : decide (97 ≤ c) = true := by simp; omega
  have le122 : decide (c ≤ 122) = false := by simp; omega
  have ge192 : decide (192 ≤ c) = true := by simp; omega
  have le255 : decide (c ≤ 255) = true := by simp; omega
  have ne215 : (c != 215) = true := by simp; omega
  have ne247 : (c != 247) = false := by simp; omega
  have ge48 : decide (48 ≤ c) = true := by simp; omega
  have le57 : decide (c ≤ 57) = false := by simp; omega
  have lt32 : decide (c < 32) = false := by simp; omega
  have ge127 : decide (127 ≤ c) = true := by simp; omega
  have le159 : decide (c ≤ 159) = false := by simp; omega
  clear hb h1 h2
  go_enter Tryd.func34, Tryd.ntmps34
  go_wp2_with (go_at_call 37; refine (is_any _ _).mono ?_; rintro e w' ⟨rfl, rfl⟩)
  go_ret
  exact ⟨rfl, rfl⟩
theorem rclass_14 (c : Int) (w : World) (hp : isP c = true) (hb : blkB c = false) (h1 : 248 ≤ c) (h2 : c ≤ 255) :
    Calls Tryd.prog 34 #[.int .i64 c] w fun e w' => e = .returned (.int .i64 2) ∧ w' = w := by
  have b1 : (c == 9) = false := by unfold blkB at hb; simp at hb; simp; omega
  have b2 : (c == 10) = false := by unfold blkB at hb; simp at hb; simp; omega
  have b3 : (c == 13) = false := by unfold blkB at hb; simp at hb; simp; omega
  have b4 : (c == 32) = false := by unfold blkB at hb; simp at hb; simp; omega
  have ge65 : decide (65 ≤ c) = true := by simp; omega
  have le90 : decide (c ≤ 90) = false := by simp; omega
  have ge97 : decide (97 ≤ c) = true := by simp; omega
  have le122 : decide (c ≤ 122) = false := by simp; omega
  have ge192 : decide (192 ≤ c) = true := by simp; omega
  have le255 : decide (c ≤ 255) = true := by simp; omega
  have ne215 : (c != 215) = true := by simp; omega
  have ne247 : (c != 247) = true := by simp; omega
  have ge48 : decide (48 ≤ c) = true := by simp; omega
  have le57 : decide (c ≤ 57) = false := by simp; omega
  have lt32 : decide (c < 32) = false := by simp; omega
  have ge127 : decide (127 ≤ c) = true := by simp; omega
  have le159 : decide (c ≤ 159) = false := by simp; omega
  clear hb h1 h2
  go_enter Tryd.func34, Tryd.ntmps34
  go_wp2_with (go_at_call 37; refine (is_any _ _).mono ?_; rintro e w' ⟨rfl, rfl⟩)
  go_ret
  exact ⟨rfl, rfl⟩
theorem rclass_15 (c : Int) (w : World) (hp : isP c = true) (hb : blkB c = false) (h1 : 256 ≤ c) :
    Calls Tryd.prog 34 #[.int .i64 c] w fun e w' => e = .returned (.int .i64 5) ∧ w' = w := by
  have b1 : (c == 9) = false := by unfold blkB at hb; simp at hb; simp; omega
  have b2 : (c == 10) = false := by unfold blkB at hb; simp at hb; simp; omega
  have b3 : (c == 13) = false := by unfold blkB at hb; simp at hb; simp; omega
  have b4 : (c == 32) = false := by unfold blkB at hb; simp at hb; simp; omega
  have ge65 : decide (65 ≤ c) = true := by simp; omega
  have le90 : decide (c ≤ 90) = false := by simp; omega
  have ge97 : decide (97 ≤ c) = true := by simp; omega
  have le122 : decide (c ≤ 122) = false := by simp; omega
  have ge192 : decide (192 ≤ c) = true := by simp; omega
  have le255 : decide (c ≤ 255) = false := by simp; omega
  have ne215 : (c != 215) = true := by simp; omega
  have ne247 : (c != 247) = true := by simp; omega
  have ge48 : decide (48 ≤ c) = true := by simp; omega
  have le57 : decide (c ≤ 57) = false := by simp; omega
  have lt32 : decide (c < 32) = false := by simp; omega
  have ge127 : decide (127 ≤ c) = true := by simp; omega
  have le159 : decide (c ≤ 159) = false := by simp; omega
  clear hb h1
  go_enter Tryd.func34, Tryd.ntmps34
  go_wp2_with (go_at_call 37; refine (is_any _ _).mono ?_; rintro e w' ⟨rfl, rfl⟩)
  go_ret
  exact ⟨rfl, rfl⟩
theorem rclass_any (c : Int) (w : World) :
    Calls Tryd.prog 34 #[.int .i64 c] w fun e w' => e = .returned (.int .i64 (clsV c)) ∧ w' = w := by
  cases hp : isP c
  · rw [show clsV c = 0 by unfold clsV; rw [if_pos hp]]
    go_enter Tryd.func34, Tryd.ntmps34
    go_wp2_with (go_at_call 37; refine (is_any _ _).mono ?_; rintro e w' ⟨rfl, rfl⟩)
    go_ret
    exact ⟨rfl, rfl⟩
  cases hb : blkB c
  · have hb' : ¬ (c = 9 ∨ c = 10 ∨ c = 13 ∨ c = 32) := by unfold blkB at hb; exact of_decide_eq_false hb
    by_cases k0 : c ≤ 31
    · have e : clsV c = 4 := by
        unfold clsV
        rw [hp, hb, if_neg (by simp), if_neg (by simp)]
        rw [if_neg (by unfold letB; simp; omega), if_neg (by rw [win_f (by omega)]; simp), if_pos (by unfold win; simp; omega)]
      rw [e]; exact rclass_0 c w hp hb (by omega)
    by_cases k1 : c ≤ 47
    · have e : clsV c = 5 := by
        unfold clsV
        rw [hp, hb, if_neg (by simp), if_neg (by simp)]
        rw [if_neg (by unfold letB; simp; omega), if_neg (by rw [win_f (by omega)]; simp), if_neg (by unfold win; simp; omega)]
      rw [e]; exact rclass_1 c w hp hb (by omega) (by omega)
    by_cases k2 : c ≤ 57
    · have e : clsV c = 3 := by
        unfold clsV
        rw [hp, hb, if_neg (by simp), if_neg (by simp)]
        rw [if_neg (by unfold letB; simp; omega), if_pos (win_t (by omega))]
      rw [e]; exact rclass_2 c w hp hb (by omega) (by omega)
    by_cases k3 : c ≤ 64
    · have e : clsV c = 5 := by
        unfold clsV
        rw [hp, hb, if_neg (by simp), if_neg (by simp)]
        rw [if_neg (by unfold letB; simp; omega), if_neg (by rw [win_f (by omega)]; simp), if_neg (by unfold win; simp; omega)]
      rw [e]; exact rclass_3 c w hp hb (by omega) (by omega)
    by_cases k4 : c ≤ 90
    · have e : clsV c = 2 := by
        unfold clsV
        rw [hp, hb, if_neg (by simp), if_neg (by simp)]
        rw [if_pos (by unfold letB; exact decide_eq_true (by omega))]
      rw [e]; exact rclass_4 c w hp hb (by omega) (by omega)
    by_cases k5 : c ≤ 96
    · have e : clsV c = 5 := by
        unfold clsV
        rw [hp, hb, if_neg (by simp), if_neg (by simp)]
        rw [if_neg (by unfold letB; simp; omega), if_neg (by rw [win_f (by omega)]; simp), if_neg (by unfold win; simp; omega)]
      rw [e]; exact rclass_5 c w hp hb (by omega) (by omega)
    by_cases k6 : c ≤ 122
    · have e : clsV c = 2 := by
        unfold clsV
        rw [hp, hb, if_neg (by simp), if_neg (by simp)]
        rw [if_pos (by unfold letB; exact decide_eq_true (by omega))]
      rw [e]; exact rclass_6 c w hp hb (by omega) (by omega)
    by_cases k7 : c ≤ 126
    · have e : clsV c = 5 := by
        unfold clsV
        rw [hp, hb, if_neg (by simp), if_neg (by simp)]
        rw [if_neg (by unfold letB; simp; omega), if_neg (by rw [win_f (by omega)]; simp), if_neg (by unfold win; simp; omega)]
      rw [e]; exact rclass_7 c w hp hb (by omega) (by omega)
    by_cases k8 : c ≤ 159
    · have e : clsV c = 4 := by
        unfold clsV
        rw [hp, hb, if_neg (by simp), if_neg (by simp)]
        rw [if_neg (by unfold letB; simp; omega), if_neg (by rw [win_f (by omega)]; simp), if_pos (by unfold win; simp; omega)]
      rw [e]; exact rclass_8 c w hp hb (by omega) (by omega)
    by_cases k9 : c ≤ 191
    · have e : clsV c = 5 := by
        unfold clsV
        rw [hp, hb, if_neg (by simp), if_neg (by simp)]
        rw [if_neg (by unfold letB; simp; omega), if_neg (by rw [win_f (by omega)]; simp), if_neg (by unfold win; simp; omega)]
      rw [e]; exact rclass_9 c w hp hb (by omega) (by omega)
    by_cases k10 : c ≤ 214
    · have e : clsV c = 2 := by
        unfold clsV
        rw [hp, hb, if_neg (by simp), if_neg (by simp)]
        rw [if_pos (by unfold letB; exact decide_eq_true (by omega))]
      rw [e]; exact rclass_10 c w hp hb (by omega) (by omega)
    by_cases k11 : c ≤ 215
    · have e : clsV c = 5 := by
        unfold clsV
        rw [hp, hb, if_neg (by simp), if_neg (by simp)]
        rw [if_neg (by unfold letB; simp; omega), if_neg (by rw [win_f (by omega)]; simp), if_neg (by unfold win; simp; omega)]
      rw [e]; exact rclass_11 c w hp hb (by omega) (by omega)
    by_cases k12 : c ≤ 246
    · have e : clsV c = 2 := by
        unfold clsV
        rw [hp, hb, if_neg (by simp), if_neg (by simp)]
        rw [if_pos (by unfold letB; exact decide_eq_true (by omega))]
      rw [e]; exact rclass_12 c w hp hb (by omega) (by omega)
    by_cases k13 : c ≤ 247
    · have e : clsV c = 5 := by
        unfold clsV
        rw [hp, hb, if_neg (by simp), if_neg (by simp)]
        rw [if_neg (by unfold letB; simp; omega), if_neg (by rw [win_f (by omega)]; simp), if_neg (by unfold win; simp; omega)]
      rw [e]; exact rclass_13 c w hp hb (by omega) (by omega)
    by_cases k14 : c ≤ 255
    · have e : clsV c = 2 := by
        unfold clsV
        rw [hp, hb, if_neg (by simp), if_neg (by simp)]
        rw [if_pos (by unfold letB; exact decide_eq_true (by omega))]
      rw [e]; exact rclass_14 c w hp hb (by omega) (by omega)
    · have e : clsV c = 5 := by
        unfold clsV
        rw [hp, hb, if_neg (by simp), if_neg (by simp)]
        rw [if_neg (by unfold letB; simp; omega), if_neg (by rw [win_f (by omega)]; simp), if_neg (by unfold win; simp; omega)]
      rw [e]; exact rclass_15 c w hp hb (by omega)
  · rw [show clsV c = 1 by unfold clsV; rw [hp, hb, if_neg (by simp), if_pos rfl]]
    have way : c = 9 ∨ c = 10 ∨ c = 13 ∨ c = 32 := by unfold blkB at hb; simpa using hb
    rcases way with rfl | rfl | rfl | rfl
    all_goals
      go_enter Tryd.func34, Tryd.ntmps34
      go_wp2_with (first | (go_at_call 37; refine (is_any _ _).mono ?_; rintro e w' ⟨rfl, rfl⟩))
      go_ret
      exact ⟨rfl, rfl⟩
end Go.Proofs.YtpmdekhjodhdmaaDoor
