/-
  What the reference's parts answer, of any ints.
-/
import Derived.Test.YtehcpnbbgjinfaaRBase
import Derived.Test.YtehcpnbbgjinfaaRDiv
import Derived.Test.YtehcpnbbgjinfaaScale
import Derived.WalkKit
import Derived.Outline
namespace Go.Proofs.Ytehcpnbbgjinfaa
open Go.RowKit

/- parts: below 0 or not; the whole part, 2^40 + 1 if it is greater; the rest -/
def ptB (a b : Int) : Bool := !(signB a b) && decide (mag a b ≠ 0)
def ptQ (a b : Int) (k : Nat) : Int := if mag a b / k ≤ 1099511627776 then ((mag a b / k : Nat) : Int) else 1099511627777

set_option maxHeartbeats 4000000 in
theorem parts_any (a b : Int) (k : Nat) (a1 : -9223372036854775808 ≤ a) (a2 : a ≤ 9223372036854775807) (b1 : -9223372036854775808 ≤ b) (b2 : b ≤ 9223372036854775807)
    (k1 : 1 ≤ k) (k2 : k ≤ 9223372036854775807) (w : World) :
    Calls Try.prog 54 #[.int .i64 a, .int .i64 b, .int .i64 k] w fun e w' =>
      e = .returned (.tuple #[.bool (ptB a b), .int .i64 (ptQ a b k), .int .u64 ((mag a b % k : Nat) : Int)]) ∧ w' = w := by
  have hA : a.natAbs < 18446744073709551616 := by omega
  have hB : b.natAbs < 18446744073709551616 := by omega
  have CA := hide (fun w => rsize_any a a1 a2 w)
  have CB := hide (fun w => rsize_any b b1 b2 w)
  have cm := fun w => product_any a.natAbs b.natAbs hA hB w
  rw [show a.natAbs * b.natAbs = mag a b from rfl] at cm
  have hl : mag a b % 18446744073709551616 < 18446744073709551616 := Nat.mod_lt _ (by omega)
  have hh : mag a b / 18446744073709551616 < 18446744073709551616 := by
    have h1 : mag a b ≤ 18446744073709551615 * 18446744073709551615 := Nat.mul_le_mul (by omega) (by omega)
    omega
  have cd := fun w => rdivide_any (mag a b / 18446744073709551616) (mag a b % 18446744073709551616) k hh hl k1 (by omega) w
  rw [show mag a b / 18446744073709551616 * 18446744073709551616 + mag a b % 18446744073709551616 = mag a b by omega] at cd
  have htk : mag a b % k < k := Nat.mod_lt _ (by omega)
  -- the tests, decided
  have hq : (ptQ a b k = ((mag a b / k : Nat) : Int) ∧ mag a b / k / 18446744073709551616 = 0 ∧ mag a b / k % 18446744073709551616 = mag a b / k ∧ mag a b / k ≤ 1099511627776) ∨
      (ptQ a b k = 1099511627777 ∧ mag a b / k / 18446744073709551616 ≠ 0) ∨
      (ptQ a b k = 1099511627777 ∧ mag a b / k / 18446744073709551616 = 0 ∧ 1099511627776 < mag a b / k % 18446744073709551616) := by
    unfold ptQ
    generalize mag a b / k = q
    by_cases h : q ≤ 1099511627776
    · rw [if_pos h]; exact Or.inl ⟨rfl, by omega, by omega, h⟩
    · rw [if_neg h]
      by_cases h2 : q / 18446744073709551616 = 0
      · exact Or.inr (Or.inr ⟨rfl, h2, by omega⟩)
      · exact Or.inr (Or.inl ⟨rfl, h2⟩)
  have hz : (mag a b ≠ 0 ∧ mag a b / 18446744073709551616 ≠ 0) ∨ (mag a b ≠ 0 ∧ mag a b / 18446744073709551616 = 0 ∧ mag a b % 18446744073709551616 ≠ 0) ∨ (mag a b = 0 ∧ mag a b / 18446744073709551616 = 0 ∧ mag a b % 18446744073709551616 = 0) := by omega
  have hsg : signB a b = (decide (a < 0) == decide (b < 0)) := rfl
  unfold ptB
  rw [hsg]
  generalize ptQ a b k = Q at *
  generalize mag a b / k / 18446744073709551616 = qh at *
  generalize mag a b / k % 18446744073709551616 = ql at *
  generalize mag a b % k = t at *
  generalize mag a b / k = q at *
  generalize mag a b / 18446744073709551616 = x at *
  generalize mag a b % 18446744073709551616 = z at *
  generalize mag a b = m at *
  have CM := hide cm
  have CD := hide cd
  clear cm cd hsg hA hB hl hh
  generalize decide (a < 0) = sa at *
  generalize decide (b < 0) = sb at *
  have fq : (Q = (ql : Int) ∧ ((qh : Int) == 0) = true ∧ decide ((ql : Int) ≤ 1099511627776) = true ∧ ql ≤ 1099511627776) ∨ (Q = 1099511627777 ∧ ((qh : Int) == 0) = false) ∨
      (Q = 1099511627777 ∧ ((qh : Int) == 0) = true ∧ decide ((ql : Int) ≤ 1099511627776) = false) := by
    rcases hq with ⟨h1, h2, h3, h4⟩ | ⟨h1, h2⟩ | ⟨h1, h2, h3⟩
    · exact Or.inl ⟨by omega, by rw [beq_iff_eq]; omega, by simp; omega, by omega⟩
    · exact Or.inr (Or.inl ⟨h1, by rw [beq_eq_false_iff_ne]; omega⟩)
    · exact Or.inr (Or.inr ⟨h1, by rw [beq_iff_eq]; omega, by simp; omega⟩)
  have fz : (decide (m ≠ 0) = true ∧ ((x : Int) != 0) = true) ∨ (decide (m ≠ 0) = true ∧ ((x : Int) != 0) = false ∧ ((z : Int) != 0) = true) ∨ (decide (m ≠ 0) = false ∧ ((x : Int) != 0) = false ∧ ((z : Int) != 0) = false) := by
    rcases hz with ⟨h1, h2⟩ | ⟨h1, h2, h3⟩ | ⟨h1, h2, h3⟩
    · exact Or.inl ⟨by simp; omega, by rw [bne_iff_ne]; omega⟩
    · exact Or.inr (Or.inl ⟨by simp; omega, by simp; omega, by rw [bne_iff_ne]; omega⟩)
    · exact Or.inr (Or.inr ⟨by simp; omega, by simp; omega, by simp; omega⟩)
  generalize decide (m ≠ 0) = mb at *
  clear hq hz
  rcases fq with ⟨f1, f2, f3, f4⟩ | ⟨f1, f2⟩ | ⟨f1, f2, f3⟩ <;> rcases fz with ⟨z1, z2⟩ | ⟨z1, z2, z3⟩ | ⟨z1, z2, z3⟩ <;> subst f1 <;> subst z1 <;> cases sa <;> cases sb
  all_goals
    go_enter Try.func54, Try.ntmps54
    go_wp2_with fail
    refine (CA.out _).mono ?_
    rintro e w' ⟨rfl, rfl⟩
    go_wp2_with fail
    refine (CB.out _).mono ?_
    rintro e w' ⟨rfl, rfl⟩
    go_wp2_with fail
    refine (CM.out _).mono ?_
    rintro e w' ⟨rfl, rfl⟩
    go_wp2_with fail
    refine (CD.out _).mono ?_
    rintro e w' ⟨rfl, rfl⟩
    go_wp2
    go_ret3
    exact ⟨rfl, rfl⟩
end Go.Proofs.Ytehcpnbbgjinfaa
