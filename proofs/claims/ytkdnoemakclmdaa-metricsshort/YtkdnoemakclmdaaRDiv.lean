/-
  What the reference's divide answers: quotient (two words) and rest of any number of two words by a divisor below 2^63.
-/
import Derived.Test.YtkdnoemakclmdaaBase
import Derived.Test.YtkdnoemakclmdaaRMul
import Derived.Test.YtkdnoemakclmdaaRDivMath
import Derived.WalkKit
import Derived.Outline
namespace Go.Proofs.Ytkdnoemakclmdaa
open Go.RowKit

theorem or1 (a t : Nat) (ht : t < 2) (ha : a < 9223372036854775808) : bits .or .u64 ((a : Int) * 2) (t : Int) = ((a * 2 + t : Nat) : Int) := by
  have e : (a : Int) * 2 = ((a * 2 : Nat) : Int) := by omega
  have h := Nat.two_pow_add_eq_or_of_lt (i := 1) (b := t) ht a
  rw [e, bits_or_u64_nat _ _ (by omega) (by omega), Nat.mul_comm, ← h]
theorem and1 (a : Nat) (ha : a < 18446744073709551616) : bits .and .u64 (a : Int) 1 = ((a % 2 : Nat) : Int) := by
  have h := bits_and_u64_nat a 1 ha (by omega)
  rw [Nat.and_one_is_mod] at h
  exact h
theorem and63 (j : Nat) (hj : j < 64) : bits .and .i64 (j : Int) 63 = (j : Int) := by
  have h : ∀ i : Fin 64, bits .and .i64 ((i.val : Nat) : Int) 63 = ((i.val : Nat) : Int) := by decide +kernel
  exact h ⟨j, hj⟩
theorem divP (a s : Nat) : (a : Int) / 2 ^ s = ((a / 2 ^ s : Nat) : Int) := by simp

/- the numbers of one round, under names -/
structure Round (hi lo c j qh ql r t r2 qh2 ql2 : Nat) : Prop where
  ebh : 64 ≤ j → bits .and .u64 ((hi : Int) / 2 ^ (j - 64)) 1 = (t : Int)
  ebl : j < 64 → bits .and .u64 ((lo : Int) / 2 ^ j) 1 = (t : Int)
  er : bits .or .u64 ((r : Int) * 2) (t : Int) = (r2 : Int)
  eh : bits .or .u64 ((qh : Int) * 2) ((ql : Int) / 9223372036854775808) = (qh2 : Int)
  el : IntKind.u64.wrap ((ql : Int) * 2) = (ql2 : Int)
  el1 : bits .or .u64 (ql2 : Int) 1 = ((ql2 + 1 : Nat) : Int)
  hr : r < c
  hqh : qh < 9223372036854775808
  hql : ql < 18446744073709551616
  hr2 : r2 < 18446744073709551616
  hge : c ≤ r2 → qh2 = (hi * 18446744073709551616 + lo) / 2 ^ j / c / 18446744073709551616 ∧ ql2 + 1 = (hi * 18446744073709551616 + lo) / 2 ^ j / c % 18446744073709551616 ∧ r2 - c = (hi * 18446744073709551616 + lo) / 2 ^ j % c
  hlt : r2 < c → qh2 = (hi * 18446744073709551616 + lo) / 2 ^ j / c / 18446744073709551616 ∧ ql2 = (hi * 18446744073709551616 + lo) / 2 ^ j / c % 18446744073709551616 ∧ r2 = (hi * 18446744073709551616 + lo) / 2 ^ j % c

theorem round_of (hi lo c j qh ql r : Nat) (hhi : hi < 18446744073709551616) (hlo : lo < 18446744073709551616) (c1 : 1 ≤ c) (c2 : c < 9223372036854775808)
    (h1 : qh = (hi * 18446744073709551616 + lo) / 2 ^ (j + 1) / c / 18446744073709551616) (h2 : ql = (hi * 18446744073709551616 + lo) / 2 ^ (j + 1) / c % 18446744073709551616)
    (h3 : r = (hi * 18446744073709551616 + lo) / 2 ^ (j + 1) % c) : ∃ t r2 qh2 ql2, Round hi lo c j qh ql r t r2 qh2 ql2 := by
  have hN : hi * 18446744073709551616 + lo < 340282366920938463463374607431768211456 := by omega
  have hb := fun h => RDivMath.bit_hi hi lo j hlo h
  have hb2 := fun h => RDivMath.bit_lo hi lo j h
  have st := RDivMath.step (hi * 18446744073709551616 + lo) c j c1
  have ql0 := RDivMath.quot_lt (hi * 18446744073709551616 + lo) c j hN
  have hrc : (hi * 18446744073709551616 + lo) / 2 ^ (j + 1) % c < c := Nat.mod_lt _ c1
  rw [← h3] at st hrc
  have wd := RDivMath.words ((hi * 18446744073709551616 + lo) / 2 ^ (j + 1) / c)
  rw [← h1, ← h2] at wd
  obtain ⟨w1, w2, w3, w4⟩ := wd
  have hqh : qh < 9223372036854775808 := by omega
  have hql : ql < 18446744073709551616 := by omega
  have ht : (hi * 18446744073709551616 + lo) / 2 ^ j % 2 < 2 := Nat.mod_lt _ (by omega)
  refine ⟨(hi * 18446744073709551616 + lo) / 2 ^ j % 2, r * 2 + (hi * 18446744073709551616 + lo) / 2 ^ j % 2, qh * 2 + ql / 9223372036854775808, ql * 2 % 18446744073709551616,
    { ebh := ?_, ebl := ?_, er := or1 r _ ht (by omega)
      eh := ?_, el := ?_, el1 := ?_, hr := hrc, hqh := hqh, hql := hql, hr2 := by omega, hge := ?_, hlt := ?_ }⟩
  · intro h
    rw [divP, and1 _ (Nat.lt_of_le_of_lt (Nat.div_le_self _ _) hhi), hb h]
  · intro h
    rw [divP, and1 _ (Nat.lt_of_le_of_lt (Nat.div_le_self _ _) hlo), hb2 h]
  · have e : (ql : Int) / 9223372036854775808 = ((ql / 9223372036854775808 : Nat) : Int) := by omega
    rw [e, or1 qh _ (by omega) hqh]
  · rw [IntKind.wrap_u64]; omega
  · have e : ((ql * 2 % 18446744073709551616 : Nat) : Int) = ((ql % 9223372036854775808 : Nat) : Int) * 2 := by omega
    have e1 := or1 (ql % 9223372036854775808) 1 (by omega) (by omega)
    rw [e]
    rw [show ((1 : Nat) : Int) = 1 from rfl] at e1
    rw [e1]
    omega
  · intro h
    obtain ⟨s1, s2⟩ := st.1 (by omega)
    rw [s1, s2, w3, w4]
    refine ⟨rfl, rfl, by omega⟩
  · intro h
    obtain ⟨s1, s2⟩ := st.2 (by omega)
    rw [s1, s2, w1, w2]
    refine ⟨rfl, rfl, by omega⟩

end Go.Proofs.Ytkdnoemakclmdaa
