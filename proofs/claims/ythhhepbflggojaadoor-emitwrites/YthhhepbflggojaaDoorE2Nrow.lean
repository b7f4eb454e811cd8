/-
  A fraction's digits times 65536: what is carried out ahead of the point, and the digits behind it.
-/
import Derived.Test.YthhhepbflggojaaDoorE2Small
import Derived.Laws.OwnMore
namespace Go.Proofs.YthhhepbflggojaaDoor.D2
set_option maxRecDepth 8000
open Go.RowKit

def dgB (d : Nat) : UInt8 := UInt8.ofNat (48 + d)
theorem dgB_nat (d : Nat) (h : d < 10) : (dgB d).toNat = 48 + d := by
  unfold dgB
  rw [UInt8.toNat_ofNat']
  omega
theorem dgB_dig (d : Nat) (h : d < 10) : isDig (dgB d) = true ∧ dv (dgB d) = d := by
  have := dgB_nat d h
  unfold isDig dv
  refine ⟨by simp; omega, by omega⟩
def nrow : List UInt8 → Nat × List UInt8
  | [] => (0, [])
  | c :: l => ((dv c * 65536 + (nrow l).1) / 10, dgB ((dv c * 65536 + (nrow l).1) % 10) :: (nrow l).2)
theorem nrow_cons (c : UInt8) (l : List UInt8) : nrow (c :: l) = ((dv c * 65536 + (nrow l).1) / 10, dgB ((dv c * 65536 + (nrow l).1) % 10) :: (nrow l).2) := rfl
theorem nrow_len (l : List UInt8) : (nrow l).2.length = l.length := by
  induction l with
  | nil => rfl
  | cons c l ih => rw [nrow_cons]; simp [ih]
theorem nrow_dig (l : List UInt8) : (nrow l).2.all isDig = true := by
  induction l with
  | nil => rfl
  | cons c l ih =>
    rw [nrow_cons]
    simp only [List.all_cons, Bool.and_eq_true]
    exact ⟨(dgB_dig _ (by omega)).1, ih⟩
theorem foldl_val (l : List UInt8) (a : Nat) : l.foldl (fun a c => 10 * a + dv c) a = a * 10 ^ l.length + val l := by
  have : ∀ (m : List UInt8), m.reverse.foldl (fun a c => 10 * a + dv c) a = a * 10 ^ m.length + val m.reverse := by
    intro m
    induction m with
    | nil => simp [val]
    | cons c m ih =>
      rw [List.reverse_cons, List.foldl_append, List.foldl_cons, List.foldl_nil, ih, val_snoc, List.length_cons, Nat.pow_succ, Nat.mul_add, ← Nat.mul_assoc 10 a, Nat.mul_comm 10 a, Nat.mul_assoc a 10, Nat.mul_comm 10 (10 ^ m.length)]
      omega
  have := this l.reverse
  rwa [List.reverse_reverse, List.length_reverse] at this
theorem val_cons (c : UInt8) (l : List UInt8) : val (c :: l) = dv c * 10 ^ l.length + val l := by
  have := foldl_val l (dv c)
  unfold val at *
  rw [List.foldl_cons]
  simpa using this
theorem val_append (a b : List UInt8) : val (a ++ b) = val a * 10 ^ b.length + val b := by
  have := foldl_val b (val a)
  unfold val at *
  rw [List.foldl_append]
  exact this
theorem nrow_val (l : List UInt8) : (nrow l).1 * 10 ^ l.length + val (nrow l).2 = val l * 65536 := by
  induction l with
  | nil => rfl
  | cons c l ih =>
    rw [nrow_cons, val_cons, val_cons]
    simp only [List.length_cons, Nat.pow_succ]
    rw [nrow_len, (dgB_dig _ (by omega : (dv c * 65536 + (nrow l).1) % 10 < 10)).2]
    generalize 10 ^ l.length = T at *
    generalize hP : dv c * 65536 + (nrow l).1 = P
    have h1 : P / 10 * 10 + P % 10 = P := by omega
    have h2 : P / 10 * (T * 10) + P % 10 * T = P * T := by
      rw [Nat.mul_comm T 10, ← Nat.mul_assoc, ← Nat.add_mul, h1]
    have h3 : P * T = dv c * 65536 * T + (nrow l).1 * T := by rw [← hP, Nat.add_mul]
    have h4 : (dv c * T + val l) * 65536 = dv c * 65536 * T + val l * 65536 := by rw [Nat.add_mul, Nat.mul_right_comm]
    omega
theorem nrow_parts (l : List UInt8) : (nrow l).1 = val l * 65536 / 10 ^ l.length ∧ val (nrow l).2 = val l * 65536 % 10 ^ l.length := by
  have h1 := nrow_val l
  have h2 := val_lt _ (nrow_dig l)
  rw [nrow_len] at h2
  have hp : 0 < 10 ^ l.length := Nat.pow_pos (by decide)
  rw [← h1]
  constructor
  · rw [Nat.add_comm, Nat.add_mul_div_right _ _ hp, Nat.div_eq_of_lt h2, Nat.zero_add]
  · rw [Nat.add_comm, Nat.add_mul_mod_self_right, Nat.mod_eq_of_lt h2]
theorem nrow_le (l : List UInt8) (h : l.all isDig = true) : (nrow l).1 ≤ 65535 := by
  have h1 := (nrow_parts l).1
  have h2 := val_lt l h
  have hp : 0 < 10 ^ l.length := Nat.pow_pos (by decide)
  rw [h1]
  have : val l * 65536 < 10 ^ l.length * 65536 := Nat.mul_lt_mul_of_pos_right h2 (by decide)
  have := Nat.div_lt_of_lt_mul this
  omega
end Go.Proofs.YthhhepbflggojaaDoor.D2
