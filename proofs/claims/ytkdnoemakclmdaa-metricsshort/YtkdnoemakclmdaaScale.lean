/-
  What fixed.Floor, Scale and Times answer, of any ints.
-/
import Derived.Test.YtkdnoemakclmdaaBase
import Derived.Test.YtkdnoemakclmdaaDivide
import Derived.WalkKit
import Derived.Outline
namespace Go.Proofs.Ytkdnoemakclmdaa
open Go.RowKit

theorem dv_bd (a b c : Int) (h : dvB a b c = true) : 1 ≤ c ∧ -1099511627777 ≤ dvQ a b c ∧ dvQ a b c ≤ 1099511627776 ∧ 0 ≤ dvR a b c ∧ dvR a b c < c := by
  have h0 := h
  unfold dvB at h0
  simp only [decide_eq_true_eq] at h0
  obtain ⟨h1, h2⟩ := h0
  have hm : mag a b % c.toNat < c.toNat := Nat.mod_lt _ (by omega)
  unfold dvQ dvR
  rw [h]
  generalize mag a b % c.toNat = t at *
  generalize mag a b / c.toNat = q at *
  simp only [if_true]
  cases signB a b
  · by_cases ht : t = 0
    · simp [ht]; omega
    · simp [ht]; omega
  · simp; omega

def flB (a b c : Int) : Bool := dvB a b c && inB (dvQ a b c)
def flV (a b c : Int) : Int := if dvB a b c then tolV (dvQ a b c) else 0
def scQ (a b c : Int) : Int := if c - dvR a b c ≤ dvR a b c then dvQ a b c + 1 else dvQ a b c
def scB (a b c : Int) : Bool := dvB a b c && inB (scQ a b c)
def scV (a b c : Int) : Int := if dvB a b c then tolV (scQ a b c) else 0

theorem scale_any (a b c : Int) (a1 : -9223372036854775808 ≤ a) (a2 : a ≤ 9223372036854775807) (b1 : -9223372036854775808 ≤ b) (b2 : b ≤ 9223372036854775807)
    (c2 : c ≤ 9223372036854775807) (w : World) :
    Calls Try.prog 29 #[.int .i64 a, .int .i64 b, .int .i64 c] w fun e w' =>
      e = .returned (.tuple #[.int .i64 (scV a b c), .bool (scB a b c)]) ∧ ∃ n, w' = w.drewN n := by
  have c0 := fun w => divide_any a b c a1 a2 b1 b2 c2 w
  cases h : dvB a b c
  · rw [h] at c0
    rw [show scV a b c = 0 by simp [scV, h], show scB a b c = false by simp [scB, h]]
    have C := hide c0
    clear c0
    go_enter Try.func29, Try.ntmps29
    go_wp2_with fail
    refine (C.out _).mono ?_
    rintro e w' ⟨rfl, n, rfl⟩
    go_wp2
    go_ret2
    exact ⟨rfl, n, rfl⟩
  · rw [h] at c0
    have bd := dv_bd a b c h
    rw [show scV a b c = tolV (scQ a b c) by simp [scV, h], show scB a b c = inB (scQ a b c) by simp [scB, h]]
    unfold scQ
    generalize dvQ a b c = q at *
    generalize dvR a b c = r at *
    have C := hide c0
    clear c0 h
    by_cases hr : c - r ≤ r
    · rw [if_pos hr]
      go_enter Try.func29, Try.ntmps29
      go_wp2_with fail
      refine (C.out _).mono ?_
      rintro e w' ⟨rfl, n, rfl⟩
      go_wp2_with (go_at_call 35; refine (ifIn_any _ _).mono ?_; rintro e w' ⟨rfl, rfl⟩)
      go_ret2
      exact ⟨rfl, n, rfl⟩
    · rw [if_neg hr]
      go_enter Try.func29, Try.ntmps29
      go_wp2_with fail
      refine (C.out _).mono ?_
      rintro e w' ⟨rfl, n, rfl⟩
      go_wp2_with (go_at_call 35; refine (ifIn_any _ _).mono ?_; rintro e w' ⟨rfl, rfl⟩)
      go_ret2
      exact ⟨rfl, n, rfl⟩

def tmB (a n : Int) : Bool := inB a && flB a n 1
def tmV (a n : Int) : Int := if inB a then flV a n 1 else 0
/- Times in plain words: the product, if both are in -/
theorem mag_int (a b : Int) : (if signB a b then ((mag a b : Nat) : Int) else -((mag a b : Nat) : Int)) = a * b := by
  unfold mag signB
  have hab : ((a.natAbs * b.natAbs : Nat) : Int) = (a.natAbs : Int) * (b.natAbs : Int) := Int.natCast_mul _ _
  rw [hab]
  by_cases ha : a < 0
  · have e1 : (a.natAbs : Int) = -a := by omega
    by_cases hb : b < 0
    · have e2 : (b.natAbs : Int) = -b := by omega
      simp [ha, hb, e1, e2]
      rw [Int.neg_mul_neg]
    · have e2 : (b.natAbs : Int) = b := by omega
      simp [ha, hb, e1, e2]
      rw [Int.neg_mul, Int.neg_neg]
  · have e1 : (a.natAbs : Int) = a := by omega
    by_cases hb : b < 0
    · have e2 : (b.natAbs : Int) = -b := by omega
      simp [ha, hb, e1, e2]
      rw [Int.mul_neg, Int.neg_neg]
    · have e2 : (b.natAbs : Int) = b := by omega
      simp [ha, hb, e1, e2]
theorem fl_one (a n : Int) : flB a n 1 = inB (a * n) ∧ flV a n 1 = tolV (a * n) := by
  have hm := mag_int a n
  have e1 : dvB a n 1 = inB (a * n) := by
    unfold dvB inB
    rw [← hm]
    generalize mag a n = m at *
    cases signB a n <;> simp <;> omega
  have e2 : dvB a n 1 = true → dvQ a n 1 = a * n := by
    intro h
    unfold dvQ
    rw [h, ← hm]
    cases signB a n <;> simp [Nat.mod_one]
  unfold flB flV
  cases h : dvB a n 1
  · rw [h] at e1; rw [tolV_f e1.symm]; simp [e1.symm]
  · rw [h] at e1; rw [e2 h, ← e1]; simp
end Go.Proofs.Ytkdnoemakclmdaa
