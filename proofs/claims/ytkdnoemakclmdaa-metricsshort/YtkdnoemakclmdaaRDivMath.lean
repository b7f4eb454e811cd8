/-
  The arithmetic of a division bit by bit (no program in this text).
-/
namespace Go.Proofs.Ytkdnoemakclmdaa.RDivMath

theorem half (N j : Nat) : N / 2 ^ j = 2 * (N / 2 ^ (j + 1)) + N / 2 ^ j % 2 := by
  have : N / 2 ^ (j + 1) = N / 2 ^ j / 2 := by rw [Nat.pow_succ, Nat.div_div_eq_div_mul]
  omega

theorem step (N c j : Nat) (c1 : 1 ≤ c) :
    (c ≤ 2 * (N / 2 ^ (j + 1) % c) + N / 2 ^ j % 2 → N / 2 ^ j / c = 2 * (N / 2 ^ (j + 1) / c) + 1 ∧ N / 2 ^ j % c = 2 * (N / 2 ^ (j + 1) % c) + N / 2 ^ j % 2 - c) ∧
    (2 * (N / 2 ^ (j + 1) % c) + N / 2 ^ j % 2 < c → N / 2 ^ j / c = 2 * (N / 2 ^ (j + 1) / c) ∧ N / 2 ^ j % c = 2 * (N / 2 ^ (j + 1) % c) + N / 2 ^ j % 2) := by
  have e := half N j
  have ht : N / 2 ^ j % 2 < 2 := Nat.mod_lt _ (by omega)
  generalize N / 2 ^ j % 2 = t at *
  have e2 := Nat.div_add_mod (N / 2 ^ (j + 1)) c
  have hr : N / 2 ^ (j + 1) % c < c := Nat.mod_lt _ c1
  generalize N / 2 ^ (j + 1) % c = r at *
  generalize N / 2 ^ (j + 1) / c = Q at *
  generalize N / 2 ^ (j + 1) = T at *
  rw [e]
  have m2 : c * (2 * Q) = 2 * (c * Q) := by rw [Nat.mul_left_comm]
  have m3 : c * (2 * Q + 1) = 2 * (c * Q) + c := by rw [Nat.mul_add, m2, Nat.mul_one]
  constructor
  · intro h
    exact (Nat.div_mod_unique c1).2 ⟨by omega, by omega⟩
  · intro h
    exact (Nat.div_mod_unique c1).2 ⟨by omega, by omega⟩

theorem quot_lt (N c j : Nat) (hN : N < 340282366920938463463374607431768211456) : N / 2 ^ (j + 1) / c < 170141183460469231731687303715884105728 := by
  have h1 : N / 2 ^ (j + 1) / c ≤ N / 2 ^ (j + 1) := Nat.div_le_self _ _
  have h2 : N / 2 ^ (j + 1) ≤ N / 2 := Nat.div_le_div_left (by have := Nat.two_pow_pos j; rw [Nat.pow_succ]; omega) (by omega)
  omega

theorem bit_hi (hi lo j : Nat) (hlo : lo < 18446744073709551616) (hj : 64 ≤ j) : (hi * 18446744073709551616 + lo) / 2 ^ j = hi / 2 ^ (j - 64) := by
  have e : 2 ^ j = 18446744073709551616 * 2 ^ (j - 64) := by
    rw [show (18446744073709551616 : Nat) = 2 ^ 64 from rfl, ← Nat.pow_add]
    congr 1
    omega
  rw [e, ← Nat.div_div_eq_div_mul]
  congr 1
  omega
theorem bit_lo (hi lo j : Nat) (hj : j < 64) : (hi * 18446744073709551616 + lo) / 2 ^ j % 2 = lo / 2 ^ j % 2 := by
  have e : (18446744073709551616 : Nat) = 2 ^ (63 - j) * 2 * 2 ^ j := by
    rw [← Nat.pow_succ, ← Nat.pow_add, show 63 - j + 1 + j = 64 by omega]
  rw [e, ← Nat.mul_assoc, ← Nat.mul_assoc, Nat.add_comm, Nat.add_mul_div_right _ _ (Nat.two_pow_pos j)]
  omega

theorem words (Q : Nat) : (2 * Q) / 18446744073709551616 = Q / 18446744073709551616 * 2 + Q % 18446744073709551616 / 9223372036854775808 ∧
    (2 * Q) % 18446744073709551616 = Q % 18446744073709551616 * 2 % 18446744073709551616 ∧
    (2 * Q + 1) / 18446744073709551616 = Q / 18446744073709551616 * 2 + Q % 18446744073709551616 / 9223372036854775808 ∧
    (2 * Q + 1) % 18446744073709551616 = Q % 18446744073709551616 * 2 % 18446744073709551616 + 1 := by omega
end Go.Proofs.Ytkdnoemakclmdaa.RDivMath
