/-
  The least rectangle that holds the first of a list: in plain words.
-/
import Derived.Test.YtaaajbpdnbhghaaR3Math
namespace Go.Proofs.Ytaaajbpdnbhghaa
open Go.RowKit

/- side j of rectangle i
-/
def sd (zs : List Int) (i j : Nat) : Int := zs.getD (i * 4 + j) 0
def mayAt (zs : List Int) (i : Nat) : Bool := mayB (sd zs i 0) (sd zs i 1) (sd zs i 2) (sd zs i 3)
/- the least that holds rectangles 0 to k, by its sides -/
def ac0 (zs : List Int) : Nat → Int
  | 0 => sd zs 0 0
  | k + 1 => min (ac0 zs k) (sd zs (k + 1) 0)
def ac1 (zs : List Int) : Nat → Int
  | 0 => sd zs 0 1
  | k + 1 => min (ac1 zs k) (sd zs (k + 1) 1)
def ac2 (zs : List Int) : Nat → Int
  | 0 => sd zs 0 2
  | k + 1 => max (ac2 zs k) (sd zs (k + 1) 2)
def ac3 (zs : List Int) : Nat → Int
  | 0 => sd zs 0 3
  | k + 1 => max (ac3 zs k) (sd zs (k + 1) 3)
/- may the first k be? -/
def mayAll (zs : List Int) : Nat → Bool
  | 0 => true
  | k + 1 => mayAll zs k && mayAt zs k
theorem mayAll_at {zs : List Int} {n : Nat} (h : mayAll zs n = true) : ∀ i, i < n → mayAt zs i = true := by
  induction n with
  | zero => intro i hi; omega
  | succ n ih =>
    simp only [mayAll, Bool.and_eq_true] at h
    intro i hi
    by_cases e : i = n
    · rw [e]; exact h.2
    · exact ih h.1 i (by omega)
theorem mayAll_lt {zs : List Int} {n k : Nat} (h : mayAll zs n = true) (hk : k ≤ n) : mayAll zs k = true := by
  induction n with
  | zero => obtain rfl : k = 0 := by omega
            exact h
  | succ n ih =>
    by_cases e : k = n + 1
    · rw [e]; exact h
    · simp only [mayAll, Bool.and_eq_true] at h
      exact ih h.1 (by omega)
theorem mayAll_f {zs : List Int} {n k : Nat} (hk : k < n) (h : mayAt zs k = false) : mayAll zs n = false := by
  cases hn : mayAll zs n
  · rfl
  · rw [mayAll_at hn k hk] at h; cases h
theorem acc_may {zs : List Int} {k : Nat} (h : mayAll zs (k + 1) = true) : mayB (ac0 zs k) (ac1 zs k) (ac2 zs k) (ac3 zs k) = true := by
  induction k with
  | zero => exact mayAll_at h 0 (by omega)
  | succ k ih => exact join_may (ih (mayAll_lt h (by omega))) (mayAll_at h (k + 1) (by omega))
theorem acc_le {zs : List Int} {k i : Nat} (hi : i ≤ k) : ac0 zs k ≤ sd zs i 0 ∧ ac1 zs k ≤ sd zs i 1 ∧ sd zs i 2 ≤ ac2 zs k ∧ sd zs i 3 ≤ ac3 zs k := by
  induction k with
  | zero => obtain rfl : i = 0 := by omega
            simp [ac0, ac1, ac2, ac3]
  | succ k ih =>
    simp only [ac0, ac1, ac2, ac3]
    by_cases e : i = k + 1
    · rw [e]; omega
    · have := ih (by omega)
      omega
theorem acc_holds {zs : List Int} {k i : Nat} (h : mayAll zs (k + 1) = true) (hi : i ≤ k) : holdsQ (ac0 zs k) (ac1 zs k) (ac2 zs k) (ac3 zs k) (sd zs i 0) (sd zs i 1) (sd zs i 2) (sd zs i 3) = true :=
  holdsQ_t (acc_may h) (mayAll_at h i (by omega)) (acc_le hi)
/- one more: the rectangle so far (the first one itself, at first) and the next -/
structure AccIs (zs : List Int) (k : Nat) (u0 u1 u2 u3 : Int) : Prop where
  e0 : u0 = ac0 zs (k - 1)
  e1 : u1 = ac1 zs (k - 1)
  e2 : u2 = ac2 zs (k - 1)
  e3 : u3 = ac3 zs (k - 1)
theorem acc_step {zs : List Int} {k : Nat} {u0 u1 u2 u3 : Int} (h : AccIs zs k u0 u1 u2 u3) : AccIs zs (k + 1) (min u0 (sd zs k 0)) (min u1 (sd zs k 1)) (max u2 (sd zs k 2)) (max u3 (sd zs k 3)) := by
  obtain ⟨rfl, rfl, rfl, rfl⟩ := h
  cases k with
  | zero => constructor <;> simp [ac0, ac1, ac2, ac3]
  | succ k => constructor <;> simp [ac0, ac1, ac2, ac3]
theorem acc_start (zs : List Int) : AccIs zs 0 (sd zs 0 0) (sd zs 0 1) (sd zs 0 2) (sd zs 0 3) := ⟨rfl, rfl, rfl, rfl⟩
theorem acc_joins {zs : List Int} {k : Nat} {u0 u1 u2 u3 : Int} (h : AccIs zs k u0 u1 u2 u3) (ha : mayAll zs k = true) : joinQ u0 u1 u2 u3 (sd zs k 0) (sd zs k 1) (sd zs k 2) (sd zs k 3) = mayAt zs k := by
  obtain ⟨rfl, rfl, rfl, rfl⟩ := h
  cases k with
  | zero => show (mayAt zs 0 && mayAt zs 0) = mayAt zs 0; simp
  | succ k =>
    have := acc_may ha
    show (mayB (ac0 zs k) (ac1 zs k) (ac2 zs k) (ac3 zs k) && mayAt zs (k + 1)) = mayAt zs (k + 1)
    rw [this]; simp
/- what All answers of n rectangles -/
def allB (zs : List Int) (n : Nat) : Bool := decide (0 < n) && mayAll zs n
end Go.Proofs.Ytaaajbpdnbhghaa
