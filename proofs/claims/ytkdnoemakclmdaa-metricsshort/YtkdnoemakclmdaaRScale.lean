/-
  What the reference's Floor and Scale answer, of any ints.
-/
import Derived.Test.YtkdnoemakclmdaaRParts
import Derived.WalkKit
import Derived.Outline
namespace Go.Proofs.Ytkdnoemakclmdaa
open Go.RowKit

/- what the reference hands to told, and that it comes to the same -/
def rfX (a b : Int) (k : Nat) : Int := if ptB a b then -(ptQ a b k + (if mag a b % k = 0 then 0 else 1)) else ptQ a b k
def rsX (a b : Int) (k : Nat) : Int := if ptB a b then -(ptQ a b k + (if k < 2 * (mag a b % k) then 1 else 0)) else ptQ a b k + (if k ≤ 2 * (mag a b % k) then 1 else 0)

theorem pt_bd (a b : Int) (k : Nat) : 0 ≤ ptQ a b k ∧ ptQ a b k ≤ 1099511627777 := by
  unfold ptQ
  generalize mag a b / k = q
  split <;> omega

theorem rf_eq (a b : Int) (k : Nat) (k1 : 1 ≤ k) : tolV (rfX a b k) = flV a b k ∧ inB (rfX a b k) = flB a b k := by
  have hm : mag a b = 0 → mag a b / k = 0 ∧ mag a b % k = 0 := by intro h; rw [h]; simp
  unfold rfX ptB ptQ flV flB dvQ dvB
  rw [Int.toNat_natCast]
  by_cases h : mag a b / k ≤ 1099511627776
  · have e : decide (1 ≤ (k : Int) ∧ mag a b / k ≤ 1099511627776) = true := by simp; omega
    rw [e]
    simp only [if_pos h, if_true, Bool.true_and]
    cases signB a b
    · by_cases hz : mag a b = 0
      · obtain ⟨z1, z2⟩ := hm hz
        simp [hz]
      · by_cases ht : mag a b % k = 0
        · simp [hz, ht]
        · have e2 : -(((mag a b / k : Nat) : Int) + 1) = -((mag a b / k : Nat) : Int) - 1 := by omega
          simp [hz, ht]
          rw [← Int.natCast_ediv, e2]
          exact ⟨rfl, rfl⟩
    · simp
  · have e : decide (1 ≤ (k : Int) ∧ mag a b / k ≤ 1099511627776) = false := by simp; omega
    rw [e]
    simp only [if_neg h, Bool.false_and]
    have o : ∀ X : Int, (1099511627776 < X ∨ X < -1099511627776) → tolV X = 0 ∧ inB X = false := fun X hX => ⟨tolV_f (inB_f (by omega)), inB_f (by omega)⟩
    refine o _ ?_
    split
    · right; split <;> omega
    · left; omega

theorem rs_eq (a b : Int) (k : Nat) (k1 : 1 ≤ k) : tolV (rsX a b k) = scV a b k ∧ inB (rsX a b k) = scB a b k := by
  have hm : mag a b = 0 → mag a b / k = 0 ∧ mag a b % k = 0 := by intro h; rw [h]; simp
  have ht : mag a b % k < k := Nat.mod_lt _ k1
  by_cases h : mag a b / k ≤ 1099511627776
  · have e : dvB a b k = true := by unfold dvB; rw [Int.toNat_natCast]; simp; omega
    have x : rsX a b k = scQ a b k := by
      unfold rsX ptB ptQ scQ dvQ dvR
      rw [e, Int.toNat_natCast]
      simp only [if_pos h, if_true]
      cases signB a b
      · by_cases hz : mag a b = 0
        · obtain ⟨z1, z2⟩ := hm hz
          rw [z1, z2]
          simp [hz]
        · by_cases hr : mag a b % k = 0
          · rw [hr]
            simp [hz]
            omega
          · simp only [Bool.not_false, Bool.true_and, decide_eq_true hz, if_neg hr, Bool.false_eq_true, if_false, if_true, ne_eq]
            generalize mag a b % k = t at *
            generalize mag a b / k = q at *
            split <;> split <;> omega
      · simp only [Bool.not_true, Bool.false_and, Bool.false_eq_true, if_false, if_true]
        generalize mag a b % k = t at *
        generalize mag a b / k = q at *
        split <;> split <;> omega
    unfold scV scB
    rw [e, x]
    simp
  · have e : dvB a b k = false := by unfold dvB; rw [Int.toNat_natCast]; simp; omega
    unfold scV scB
    rw [e]
    have o : ∀ X : Int, (1099511627776 < X ∨ X < -1099511627776) → tolV X = 0 ∧ inB X = false := fun X hX => ⟨tolV_f (inB_f (by omega)), inB_f (by omega)⟩
    simp only [Bool.false_eq_true, if_false, Bool.false_and]
    refine o _ ?_
    unfold rsX ptQ
    rw [if_neg h]
    split
    · right; split <;> omega
    · left; split <;> omega

end Go.Proofs.Ytkdnoemakclmdaa
