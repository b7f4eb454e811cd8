/-
  The shares of small numbers: they add up, and each is less than one off.
-/
import Derived.Test.YtnabfcpapjmgfabShare
namespace Go.Proofs.Ytnabfcpapjmgfab.Whole
open Go.RowKit

/- the product is the divisor times the quotient, and the rest -/
theorem dv_eq (a b c : Int) (h : dvB a b c = true) : a * b = c * dvQ a b c + dvR a b c := by
  have h0 := h
  unfold dvB at h0
  simp only [decide_eq_true_eq] at h0
  obtain ⟨k, rfl⟩ : ∃ k : Nat, c = k := ⟨c.toNat, by omega⟩
  have hm := mag_int a b
  have hd := Nat.div_add_mod (mag a b) k
  have hdi : (k : Int) * ((mag a b / k : Nat) : Int) + ((mag a b % k : Nat) : Int) = ((mag a b : Nat) : Int) := by
    rw [← Int.natCast_mul, ← Int.natCast_add, hd]
  unfold dvQ dvR
  rw [h, Int.toNat_natCast, ← hm]
  simp only [if_true]
  rw [← hdi]
  generalize mag a b % k = t at *
  generalize mag a b / k = q at *
  cases signB a b
  · simp only [Bool.false_eq_true, if_false]
    by_cases ht : t = 0
    · subst ht; simp; rw [Int.mul_neg]
    · simp only [if_neg ht]
      rw [Int.mul_sub, Int.mul_neg, Int.mul_one]
      omega
  · simp

theorem fl_eq (t W T : Int) (h1 : -1000000 ≤ t) (h2 : t ≤ 1000000) (w0 : 0 ≤ W) (w1 : W ≤ T) (hT : 1 ≤ T) :
    ∃ r, 0 ≤ r ∧ r < T ∧ t * W = T * flV t W T + r := by
  have hm : mag t W / T.toNat ≤ 1000000 := by
    have h3 : mag t W ≤ 1000000 * T.toNat := Nat.mul_le_mul (show t.natAbs ≤ 1000000 by omega) (show W.natAbs ≤ T.toNat by omega)
    exact Nat.div_le_of_le_mul (by rw [Nat.mul_comm]; exact h3)
  have hB : dvB t W T = true := by
    unfold dvB
    simp only [decide_eq_true_eq]
    exact ⟨hT, by omega⟩
  have hq : inB (dvQ t W T) = true := by
    have : -1000001 ≤ dvQ t W T ∧ dvQ t W T ≤ 1000000 := by
      unfold dvQ
      rw [hB]
      generalize mag t W / T.toNat = q at *
      simp only [if_true]
      split
      · omega
      · split <;> omega
    exact inB_t (by omega) (by omega)
  obtain ⟨_, _, _, r1, r2⟩ := dv_bd t W T hB
  refine ⟨dvR t W T, r1, r2, ?_⟩
  unfold flV
  rw [hB, if_pos rfl, tolV_t hq]
  exact dv_eq t W T hB
theorem fl_self (t T : Int) (h1 : -1000000 ≤ t) (h2 : t ≤ 1000000) (hT : 1 ≤ T) : flV t T T = t := by
  obtain ⟨r, r1, r2, e⟩ := fl_eq t T T h1 h2 (by omega) (by omega) hT
  generalize flV t T T = q at *
  have e2 : T * (t - q) = r := by rw [Int.mul_sub, Int.mul_comm T t]; omega
  by_cases h : t - q = 0
  · omega
  · exfalso
    by_cases h3 : 1 ≤ t - q
    · have := Int.mul_le_mul_of_nonneg_left h3 (show 0 ≤ T by omega)
      omega
    · have := Int.mul_le_mul_of_nonneg_left (show t - q ≤ -1 by omega) (show 0 ≤ T by omega)
      omega

/- all parts from 0 to a million -/
def Fit (ys : List Int) : Prop := ∀ i, i < ys.length → 0 ≤ ys.getD i 0 ∧ ys.getD i 0 ≤ 1000000
theorem fit_mem {ys : List Int} (h : Fit ys) : ∀ y ∈ ys, 0 ≤ y ∧ y ≤ 1000000 := by
  intro y hy
  obtain ⟨i, hi, rfl⟩ := List.mem_iff_getElem.1 hy
  have := h i hi
  rw [List.getD_eq_getElem?_getD, List.getElem?_eq_getElem hi] at this
  exact this
theorem total_fit (ys : List Int) (h : ∀ y ∈ ys, 0 ≤ y ∧ y ≤ 1000000) : 0 ≤ total ys ∧ total ys ≤ 1000000 * ys.length := by
  induction ys with
  | nil => simp [total]
  | cons y ys ih =>
    have h1 := h y (by simp)
    have h2 := ih (fun z hz => h z (by simp [hz]))
    simp only [total, List.length_cons]
    omega
theorem total_take (ys : List Int) (h : ∀ y ∈ ys, 0 ≤ y ∧ y ≤ 1000000) (k : Nat) : 0 ≤ total (ys.take k) ∧ total (ys.take k) ≤ total ys := by
  induction ys generalizing k with
  | nil => simp [total]
  | cons y ys ih =>
    have h1 := h y (by simp)
    cases k with
    | zero =>
      have h2 := total_fit ys (fun z hz => h z (by simp [hz]))
      simp only [List.take_zero, total]
      omega
    | succ k =>
      have h2 := ih (fun z hz => h z (by simp [hz])) k
      simp only [List.take_succ_cons, total]
      omega
theorem allIn_fit (ys : List Int) (h : ∀ y ∈ ys, 0 ≤ y ∧ y ≤ 1000000) : allIn ys = true := by
  induction ys with
  | nil => rfl
  | cons y ys ih =>
    have h1 := h y (by simp)
    simp only [allIn, Bool.and_eq_true]
    exact ⟨inB_t (by omega) (by omega), ih (fun z hz => h z (by simp [hz]))⟩
theorem ok_fit (t : Int) (ys : List Int) (h1 : -1000000 ≤ t) (h2 : t ≤ 1000000) (h : Fit ys) (hn : ys.length ≤ 100) : shOK t ys = decide (0 < total ys) := by
  have hm := fit_mem h
  have hb := total_fit ys hm
  have hneg : negB ys = false := negB_none ys fun i hi => (h i hi).1
  unfold shOK smB
  rw [allIn_fit ys hm, inB_t (x := total ys) (by omega) (by omega), inB_t (x := t) (by omega) (by omega), hneg]
  by_cases h0 : total ys = 0
  · rw [h0]; rfl
  · have e1 : (total ys == 0) = false := by rw [beq_eq_false_iff_ne]; exact h0
    rw [e1]
    simp
    omega

/- one share: what it times T is, against total * part; bounds for all that is reckoned on the way -/
theorem share_fit (t : Int) (ys : List Int) (h1 : -1000000 ≤ t) (h2 : t ≤ 1000000) (h : Fit ys) (hT : 0 < total ys) (k : Nat) (hk : k < ys.length) :
    ∃ d, shF t ys k * total ys - t * ys.getD k 0 = d ∧ -total ys < d ∧ d < total ys := by
  have hm := fit_mem h
  have a1 := total_take ys hm k
  have a2 := total_take ys hm (k + 1)
  have hs : total (ys.take (k + 1)) = total (ys.take k) + ys.getD k 0 := by rw [take_snoc ys k hk, total_snoc]
  obtain ⟨r, r1, r2, e1⟩ := fl_eq t (total (ys.take k)) (total ys) h1 h2 a1.1 a1.2 (by omega)
  obtain ⟨s, s1, s2, e2⟩ := fl_eq t (total (ys.take (k + 1))) (total ys) h1 h2 a2.1 a2.2 (by omega)
  refine ⟨r - s, ?_, by omega, by omega⟩
  unfold shF cumF
  rw [hs] at e2 ⊢
  generalize ys.getD k 0 = z at *
  generalize total (ys.take k) = W at *
  generalize total ys = T at *
  rw [Int.mul_add] at e2
  rw [Int.sub_mul, Int.mul_comm (flV t (W + z) T) T, Int.mul_comm (flV t W T) T]
  omega
theorem cum_bd (t : Int) (ys : List Int) (k : Nat) : -1099511627776 ≤ cumF t ys k ∧ cumF t ys k ≤ 1099511627776 := by unfold cumF; exact flV_bd _ _ _
theorem cum_end (t : Int) (ys : List Int) (h1 : -1000000 ≤ t) (h2 : t ≤ 1000000) (hT : 0 < total ys) : cumF t ys ys.length = t := by
  unfold cumF
  rw [List.take_of_length_le (Nat.le_refl _)]
  exact fl_self t _ h1 h2 (by omega)
theorem shL_get (t : Int) (ys : List Int) (k : Nat) (hk : k < ys.length) : (shL t ys).getD k 0 = shF t ys k := by
  unfold shL
  rw [List.getD_eq_getElem?_getD, List.getElem?_eq_getElem (by simpa using hk)]
  simp
theorem shL_len (t : Int) (ys : List Int) : (shL t ys).length = ys.length := by simp [shL]
end Go.Proofs.Ytnabfcpapjmgfab.Whole
