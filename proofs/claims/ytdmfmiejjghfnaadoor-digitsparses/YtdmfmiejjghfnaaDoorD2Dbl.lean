/-
  A fraction's digits doubled again and again: what is carried out, and the digits that are left.
-/
import Derived.Test.YtdmfmiejjghfnaaDoorD2Nrow
import Derived.Test.YtdmfmiejjghfnaaDoorD2Half
namespace Go.Proofs.YtdmfmiejjghfnaaDoor
open Go.RowKit

def valN : List Nat → Nat
  | [] => 0
  | d :: l => d * 10 ^ l.length + valN l
def dbl : List Nat → Nat × List Nat
  | [] => (0, [])
  | d :: l => ((2 * d + (dbl l).1) / 10, (2 * d + (dbl l).1) % 10 :: (dbl l).2)
theorem dbl_cons (d : Nat) (l : List Nat) : dbl (d :: l) = ((2 * d + (dbl l).1) / 10, (2 * d + (dbl l).1) % 10 :: (dbl l).2) := rfl
def smallD (l : List Nat) : Prop := ∀ d ∈ l, d ≤ 9
theorem dbl_len (l : List Nat) : (dbl l).2.length = l.length := by
  induction l with
  | nil => rfl
  | cons d l ih => rw [dbl_cons]; simp [ih]
theorem dbl_small (l : List Nat) : smallD (dbl l).2 := by
  induction l with
  | nil => intro d h; cases h
  | cons c l ih =>
    rw [dbl_cons]
    intro d h
    rcases List.mem_cons.1 h with rfl | h
    · omega
    · exact ih d h
theorem dbl_one (l : List Nat) (h : smallD l) : (dbl l).1 ≤ 1 := by
  induction l with
  | nil => decide
  | cons d l ih =>
    have h1 := h d (by simp)
    have h2 := ih (fun x hx => h x (by simp [hx]))
    rw [dbl_cons]
    show (2 * d + (dbl l).1) / 10 ≤ 1
    omega
theorem dbl_val (l : List Nat) : (dbl l).1 * 10 ^ l.length + valN (dbl l).2 = 2 * valN l := by
  induction l with
  | nil => rfl
  | cons d l ih =>
    rw [dbl_cons]
    simp only [valN, List.length_cons, Nat.pow_succ]
    rw [dbl_len]
    generalize 10 ^ l.length = T at *
    generalize hP : 2 * d + (dbl l).1 = P
    have h1 : P / 10 * 10 + P % 10 = P := Nat.div_add_mod' _ _
    have h2 : P / 10 * (T * 10) + P % 10 * T = P * T := by rw [Nat.mul_comm T 10, ← Nat.mul_assoc, ← Nat.add_mul, h1]
    have h3 : P * T = 2 * d * T + (dbl l).1 * T := by rw [← hP, Nat.add_mul]
    have h4 : 2 * (d * T + valN l) = 2 * d * T + 2 * valN l := by rw [Nat.mul_add, Nat.mul_assoc]
    omega
theorem valN_lt (l : List Nat) (h : smallD l) : valN l < 10 ^ l.length := by
  induction l with
  | nil => decide
  | cons d l ih =>
    have h1 := h d (by simp)
    have h2 := ih (fun x hx => h x (by simp [hx]))
    simp only [valN, List.length_cons, Nat.pow_succ]
    have h3 : d * 10 ^ l.length ≤ 9 * 10 ^ l.length := Nat.mul_le_mul_right _ h1
    omega
/- k doublings -/
def dblK : Nat → List Nat → Nat × List Nat
  | 0, l => (0, l)
  | k + 1, l => (2 * (dblK k l).1 + (dbl (dblK k l).2).1, (dbl (dblK k l).2).2)
theorem dblK_spec (k : Nat) (l : List Nat) (h : smallD l) : (dblK k l).2.length = l.length ∧ smallD (dblK k l).2 ∧ (dblK k l).1 * 10 ^ l.length + valN (dblK k l).2 = 2 ^ k * valN l := by
  induction k with
  | zero => refine ⟨rfl, h, ?_⟩; simp [dblK]
  | succ k ih =>
    obtain ⟨h1, h2, h3⟩ := ih
    have hv := dbl_val (dblK k l).2
    simp only [dblK]
    refine ⟨by rw [dbl_len, h1], dbl_small _, ?_⟩
    rw [h1] at hv
    rw [Nat.add_mul, Nat.pow_succ, Nat.mul_comm (2 ^ k) 2, Nat.mul_assoc 2 (2 ^ k), ← h3, Nat.mul_add, ← Nat.mul_assoc 2]
    omega
theorem dblK_le (k : Nat) (l : List Nat) (h : smallD l) : (dblK k l).1 < 2 ^ k := by
  obtain ⟨_, _, h3⟩ := dblK_spec k l h
  have hl := valN_lt l h
  have hT : 0 < 10 ^ l.length := Nat.pow_pos (by decide)
  rcases Nat.lt_or_ge (dblK k l).1 (2 ^ k) with h' | h'
  · exact h'
  · exfalso
    have a1 : 2 ^ k * 10 ^ l.length ≤ (dblK k l).1 * 10 ^ l.length := Nat.mul_le_mul_right _ h'
    have a2 : 2 ^ k * valN l < 2 ^ k * 10 ^ l.length := Nat.mul_lt_mul_of_pos_left hl (Nat.pow_pos (by decide))
    omega
theorem dbl16 (l : List Nat) (h : smallD l) : (dblK 16 l).1 = valN l * 65536 / 10 ^ l.length ∧ valN (dblK 16 l).2 = valN l * 65536 % 10 ^ l.length := by
  obtain ⟨h1, h2, h3⟩ := dblK_spec 16 l h
  have h4 := valN_lt _ h2
  rw [h1] at h4
  have hp : 0 < 10 ^ l.length := Nat.pow_pos (by decide)
  have e : valN l * 65536 = 2 ^ 16 * valN l := by rw [Nat.mul_comm]
  rw [e, ← h3]
  constructor
  · rw [Nat.add_comm, Nat.add_mul_div_right _ _ hp, Nat.div_eq_of_lt h4, Nat.zero_add]
  · rw [Nat.add_comm, Nat.add_mul_mod_self_right, Nat.mod_eq_of_lt h4]
theorem valN_dv (l : List UInt8) : valN (l.map dv) = val l := by
  induction l with
  | nil => rfl
  | cons c l ih => rw [List.map_cons, val_cons]; simp only [valN, List.length_map]; rw [ih]
theorem small_dv (l : List UInt8) (h : l.all isDig = true) : smallD (l.map dv) := by
  intro d hd
  obtain ⟨c, hc, rfl⟩ := List.mem_map.1 hd
  rw [List.all_eq_true] at h
  exact (dv_le c (h c hc)).1
/- held against a half -/
theorem valN_zero (l : List Nat) (h : ∀ d ∈ l, d = 0) : valN l = 0 := by
  induction l with
  | nil => rfl
  | cons d l ih => simp only [valN]; rw [h d (by simp), ih (fun x hx => h x (by simp [hx]))]; simp
theorem valN_pos (l : List Nat) (h : ∃ d ∈ l, d ≠ 0) : 0 < valN l := by
  induction l with
  | nil => obtain ⟨d, hd, _⟩ := h; cases hd
  | cons c l ih =>
    simp only [valN]
    by_cases hc : c = 0
    · obtain ⟨d, hd, h0⟩ := h
      rcases List.mem_cons.1 hd with rfl | hd
      · exact absurd hc h0
      · have := ih ⟨d, hd, h0⟩
        omega
    · have : 1 * 10 ^ l.length ≤ c * 10 ^ l.length := Nat.mul_le_mul_right _ (by omega)
      have : 0 < 10 ^ l.length := Nat.pow_pos (by decide)
      omega
def toI (l : List Nat) : List Int := l.map fun (d : Nat) => (d : Int)
theorem restZ_iff (c : Nat) (r : List Nat) : restZ (toI (c :: r)) = true ↔ ∀ d ∈ r, d = 0 := by
  constructor
  · intro h d hd
    obtain ⟨i, hi, rfl⟩ := List.mem_iff_getElem.1 hd
    unfold restZ at h
    rw [List.all_eq_true] at h
    have := h (i + 1) (List.mem_range.2 (by simp [toI]; omega))
    simp [toI, hi] at this
    exact this
  · intro h
    refine restZ_t _ ?_
    intro i h1 h2
    have hi : i - 1 < r.length := by simp [toI] at h2; omega
    have := h r[i - 1] (List.getElem_mem hi)
    obtain ⟨j, rfl⟩ : ∃ j, i = j + 1 := ⟨i - 1, by omega⟩
    simp [toI] at this ⊢
    simp at hi
    simp [hi, this]
theorem hf_spec (l : List Nat) (h : smallD l) : hfV (toI l) = if 2 * valN l < 10 ^ l.length then -1 else if 2 * valN l = 10 ^ l.length then 0 else 1 := by
  cases l with
  | nil => decide
  | cons c r =>
    have hc := h c (by simp)
    have hr := valN_lt r (fun x hx => h x (by simp [hx]))
    have hT : 0 < 10 ^ r.length := Nat.pow_pos (by decide)
    have e0 : (toI (c :: r)).getD 0 0 = (c : Int) := rfl
    have hne : ¬ toI (c :: r) = [] := by simp [toI]
    unfold hfV
    rw [e0]
    have ev : valN (c :: r) = c * 10 ^ r.length + valN r := rfl
    have ep : 10 ^ (c :: r).length = 10 ^ r.length * 10 := by rw [List.length_cons, Nat.pow_succ]
    have hz := restZ_iff c r
    have hv0 := valN_zero r
    have hvp := valN_pos r
    rcases Nat.lt_trichotomy c 5 with hlt | heq | hgt
    · have hm : c * 10 ^ r.length ≤ 4 * 10 ^ r.length := Nat.mul_le_mul_right _ (by omega)
      rw [if_pos (Or.inr (by omega)), if_pos (by omega)]
    · subst heq
      rw [if_neg (by intro h; rcases h with h | h; exact hne h; omega), if_neg (by omega)]
      by_cases hall : ∀ d ∈ r, d = 0
      · have hv1 := hv0 hall
        rw [if_pos (hz.2 hall), if_neg (by omega), if_pos (by omega)]
      · have : ∃ d ∈ r, d ≠ 0 := by
          by_cases hx : ∃ d ∈ r, d ≠ 0
          · exact hx
          · exfalso; apply hall; intro d hd
            by_cases h0 : d = 0
            · exact h0
            · exact absurd ⟨d, hd, h0⟩ hx
        have hp := hvp this
        rw [if_neg (fun h => hall (hz.1 h)), if_neg (by omega), if_neg (by omega)]
    · have hm : 6 * 10 ^ r.length ≤ c * 10 ^ r.length := Nat.mul_le_mul_right _ (by omega)
      rw [if_neg (by intro h; rcases h with h | h; exact hne h; omega), if_pos (by omega), if_neg (by omega), if_neg (by omega)]
end Go.Proofs.YtdmfmiejjghfnaaDoor
