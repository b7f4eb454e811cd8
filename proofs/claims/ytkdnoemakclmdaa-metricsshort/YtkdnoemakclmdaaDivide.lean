/-
  What fixed.divide, Floor, Scale and Times answer, of any ints.
-/
import Derived.Test.YtkdnoemakclmdaaDiv
import Derived.WalkKit
import Derived.Outline
namespace Go.Proofs.Ytkdnoemakclmdaa
open Go.RowKit

/- the size of a * b, and whether the signs are alike -/
def mag (a b : Int) : Nat := a.natAbs * b.natAbs
def signB (a b : Int) : Bool := decide (a < 0) == decide (b < 0)

/- what divide answers: nothing, if c is below 1 or the quotient's size is above 2^40; else the quotient rounded down and the rest -/
def dvB (a b c : Int) : Bool := decide (1 ≤ c ∧ mag a b / c.toNat ≤ 1099511627776)
def dvQ (a b c : Int) : Int :=
  if dvB a b c then (if signB a b then (mag a b / c.toNat : Nat) else if mag a b % c.toNat = 0 then -((mag a b / c.toNat : Nat) : Int) else -((mag a b / c.toNat : Nat) : Int) - 1) else 0
def dvR (a b c : Int) : Int :=
  if dvB a b c then (if signB a b then (mag a b % c.toNat : Nat) else if mag a b % c.toNat = 0 then 0 else c - ((mag a b % c.toNat : Nat) : Int)) else 0

theorem mag_hi (m k : Nat) (h : k ≤ m / 18446744073709551616) (hk : 1 ≤ k) : 1099511627776 < m / k := by
  have h1 : k * 18446744073709551616 ≤ m := (Nat.le_div_iff_mul_le (by omega)).1 h
  have h2 : 18446744073709551616 ≤ m / k := (Nat.le_div_iff_mul_le hk).2 (by rw [Nat.mul_comm]; exact h1)
  omega

/- the walk, under names: m the product's size, q and t quotient and rest -/
set_option maxHeartbeats 1000000 in
theorem divide_walk (a b : Int) (k m q t : Nat) (a1 : -9223372036854775808 ≤ a) (a2 : a ≤ 9223372036854775807) (b1 : -9223372036854775808 ≤ b) (b2 : b ≤ 9223372036854775807)
    (k1 : 1 ≤ k) (k2 : k ≤ 9223372036854775807) (hm : m = a.natAbs * b.natAbs) (hq : q = m / k) (ht : t = m % k) (sg : Bool) (hsg : (decide (a < 0) == decide (b < 0)) = sg) (w : World) :
    Calls Try.prog 34 #[.int .i64 a, .int .i64 b, .int .i64 k] w fun e w' =>
      e = .returned (if q ≤ 1099511627776 then (if sg then .tuple #[.int .i64 q, .int .i64 t, .bool true] else if t = 0 then .tuple #[.int .i64 (-(q : Int)), .int .i64 0, .bool true] else .tuple #[.int .i64 (-(q : Int) - 1), .int .i64 ((k : Int) - (t : Int)), .bool true]) else .tuple #[.int .i64 0, .int .i64 0, .bool false]) ∧ ∃ n, w' = w.drewN n := by
  have hA : a.natAbs < 18446744073709551616 := by omega
  have hB : b.natAbs < 18446744073709551616 := by omega
  have CA := hide (fun w => size_any a a1 a2 w)
  have CB := hide (fun w => size_any b b1 b2 w)
  have cm := fun w => mul64_any a.natAbs b.natAbs hA hB w
  rw [← hm] at cm
  have hl : m % 18446744073709551616 < 18446744073709551616 := Nat.mod_lt _ (by omega)
  have htk : t < k := by rw [ht]; exact Nat.mod_lt _ (by omega)
  have cd := fun (h : m / 18446744073709551616 < k) w => div64_any (m / 18446744073709551616) (m % 18446744073709551616) k hl (by omega) h w
  rw [show m / 18446744073709551616 * 18446744073709551616 + m % 18446744073709551616 = m by omega, ← hq, ← ht] at cd
  have hbig := fun h => mag_hi m k h k1
  rw [← hq] at hbig
  obtain ⟨x, hx⟩ : ∃ x, m / 18446744073709551616 = x := ⟨_, rfl⟩
  obtain ⟨z, hz⟩ : ∃ z, m % 18446744073709551616 = z := ⟨_, rfl⟩
  rw [hx] at cm cd hbig
  rw [hz] at cm cd
  have CM := hide cm
  have CD := hide cd
  clear cm cd hx hz hm hq ht hl hA hB
  by_cases hxk : k ≤ x
  · have hb := hbig hxk
    rw [if_neg (by omega)]
    clear hbig hsg
    go_enter Try.func34, Try.ntmps34
    go_wp2_with fail
    refine (CA.out _).mono ?_
    rintro e w' ⟨rfl, rfl⟩
    go_wp2_with fail
    refine (CB.out _).mono ?_
    rintro e w' ⟨rfl, rfl⟩
    go_wp2_with fail
    refine (CM.out _).mono ?_
    rintro e w' ⟨rfl, rfl⟩
    go_wp2
    go_ret3
    exact ⟨rfl, 0, rfl⟩
  have CE := hide (CD.out (by omega))
  clear CD hbig
  by_cases hbg : q ≤ 1099511627776
  · rw [if_pos hbg]
    cases sg
    · rw [if_neg (by simp)]
      by_cases ht0 : t = 0
      · rw [if_pos ht0]
        have ht1 : ((t : Int) == 0) = true := by rw [beq_iff_eq]; omega
        clear ht0
        go_enter Try.func34, Try.ntmps34
        go_wp2_with fail
        refine (CA.out _).mono ?_
        rintro e w' ⟨rfl, rfl⟩
        go_wp2_with fail
        refine (CB.out _).mono ?_
        rintro e w' ⟨rfl, rfl⟩
        go_wp2_with fail
        refine (CM.out _).mono ?_
        rintro e w' ⟨rfl, rfl⟩
        go_wp2_with fail
        refine (CE.out _).mono ?_
        rintro e w' ⟨rfl, n, rfl⟩
        go_wp2
        go_ret3
        exact ⟨rfl, n, rfl⟩
      · rw [if_neg ht0]
        have ht1 : ((t : Int) == 0) = false := by rw [beq_eq_false_iff_ne]; omega
        clear ht0
        go_enter Try.func34, Try.ntmps34
        go_wp2_with fail
        refine (CA.out _).mono ?_
        rintro e w' ⟨rfl, rfl⟩
        go_wp2_with fail
        refine (CB.out _).mono ?_
        rintro e w' ⟨rfl, rfl⟩
        go_wp2_with fail
        refine (CM.out _).mono ?_
        rintro e w' ⟨rfl, rfl⟩
        go_wp2_with fail
        refine (CE.out _).mono ?_
        rintro e w' ⟨rfl, n, rfl⟩
        go_wp2
        go_ret3
        exact ⟨rfl, n, rfl⟩
    · rw [if_pos rfl]
      go_enter Try.func34, Try.ntmps34
      go_wp2_with fail
      refine (CA.out _).mono ?_
      rintro e w' ⟨rfl, rfl⟩
      go_wp2_with fail
      refine (CB.out _).mono ?_
      rintro e w' ⟨rfl, rfl⟩
      go_wp2_with fail
      refine (CM.out _).mono ?_
      rintro e w' ⟨rfl, rfl⟩
      go_wp2_with fail
      refine (CE.out _).mono ?_
      rintro e w' ⟨rfl, n, rfl⟩
      go_wp2
      go_ret3
      exact ⟨rfl, n, rfl⟩
  · rw [if_neg hbg]
    clear hsg
    go_enter Try.func34, Try.ntmps34
    go_wp2_with fail
    refine (CA.out _).mono ?_
    rintro e w' ⟨rfl, rfl⟩
    go_wp2_with fail
    refine (CB.out _).mono ?_
    rintro e w' ⟨rfl, rfl⟩
    go_wp2_with fail
    refine (CM.out _).mono ?_
    rintro e w' ⟨rfl, rfl⟩
    go_wp2_with fail
    refine (CE.out _).mono ?_
    rintro e w' ⟨rfl, n, rfl⟩
    go_wp2
    go_ret3
    exact ⟨rfl, n, rfl⟩

theorem divide_any (a b c : Int) (a1 : -9223372036854775808 ≤ a) (a2 : a ≤ 9223372036854775807) (b1 : -9223372036854775808 ≤ b) (b2 : b ≤ 9223372036854775807)
    (c2 : c ≤ 9223372036854775807) (w : World) :
    Calls Try.prog 34 #[.int .i64 a, .int .i64 b, .int .i64 c] w fun e w' =>
      e = .returned (.tuple #[.int .i64 (dvQ a b c), .int .i64 (dvR a b c), .bool (dvB a b c)]) ∧ ∃ n, w' = w.drewN n := by
  by_cases hc : c < 1
  · have e0 : dvB a b c = false := by unfold dvB; simp; omega
    have e1 : dvQ a b c = 0 := by unfold dvQ; rw [e0]; rfl
    have e2 : dvR a b c = 0 := by unfold dvR; rw [e0]; rfl
    rw [e0, e1, e2]
    go_enter Try.func34, Try.ntmps34
    go_wp2
    go_ret3
    exact ⟨rfl, 0, rfl⟩
  · obtain ⟨k, rfl⟩ : ∃ k : Nat, c = k := ⟨c.toNat, by omega⟩
    have h := divide_walk a b k (mag a b) (mag a b / k) (mag a b % k) a1 a2 b1 b2 (by omega) (by omega) rfl rfl rfl (signB a b) rfl w
    refine h.mono ?_
    rintro e w' ⟨rfl, hw⟩
    refine ⟨?_, hw⟩
    have eB : dvB a b k = decide (mag a b / k ≤ 1099511627776) := by
      unfold dvB; rw [Int.toNat_natCast]; simp; omega
    unfold dvQ dvR
    rw [eB, Int.toNat_natCast]
    by_cases h1 : mag a b / k ≤ 1099511627776
    · simp only [if_pos h1, decide_eq_true h1, if_true]
      cases signB a b
      · by_cases h2 : mag a b % k = 0
        · simp [h2]
        · simp [h2]
      · simp
    · simp [h1]
end Go.Proofs.Ytkdnoemakclmdaa
