/-
  What the reference's size and product answer.
-/
import Derived.Test.YtnabfcpapjmgfaaMul
import Derived.WalkKit
import Derived.Outline
namespace Go.Proofs.Ytnabfcpapjmgfaa
open Go.RowKit

theorem rsize_any (x : Int) (h1 : -9223372036854775808 ≤ x) (h2 : x ≤ 9223372036854775807) (w : World) :
    Calls Try.prog 36 #[.int .i64 x] w fun e w' => e = .returned (.tuple #[.int .u64 (x.natAbs : Nat), .bool (decide (x < 0))]) ∧ w' = w := by
  by_cases h : x < 0
  · obtain ⟨z, hz⟩ : ∃ z : Nat, x = -(z : Int) - 1 := ⟨(-x - 1).toNat, by omega⟩
    have e1 : (x.natAbs : Int) = (z : Int) + 1 := by omega
    have e2 : decide (x < 0) = true := by simp; omega
    rw [e1, e2]
    clear e1 e2
    have e3 : -(x + 1) = (z : Int) := by omega
    clear hz
    go_enter Try.func36, Try.ntmps36
    go_wp2
    go_ret2
    exact ⟨rfl, rfl⟩
  · have e1 : (x.natAbs : Int) = x := by omega
    have e2 : decide (x < 0) = false := by simp; omega
    rw [e1, e2]
    clear e1 e2
    go_enter Try.func36, Try.ntmps36
    go_wp2
    go_ret2
    exact ⟨rfl, rfl⟩

theorem orN (k l : Nat) (hl : l < 4294967296) : bits .or .u64 (IntKind.u64.wrap ((k : Int) * 4294967296)) (l : Int) = ((k % 4294967296 * 4294967296 + l : Nat) : Int) := by
  have e : IntKind.u64.wrap ((k : Int) * 4294967296) = ((k % 4294967296 * 4294967296 : Nat) : Int) := by rw [IntKind.wrap_u64]; omega
  rw [e, bits_or_u64_nat _ _ (by omega) (by omega)]
  have := Nat.two_pow_add_eq_or_of_lt (i := 32) (b := l) hl (k % 4294967296)
  rw [Nat.mul_comm] at this
  rw [← this]

set_option maxHeartbeats 1000000 in
theorem product_any (x y : Nat) (hx : x < 18446744073709551616) (hy : y < 18446744073709551616) (w : World) :
    Calls Try.prog 37 #[.int .u64 x, .int .u64 y] w fun e w' => e = .returned (.tuple #[.int .u64 ((x * y / 18446744073709551616 : Nat) : Int), .int .u64 ((x * y % 18446744073709551616 : Nat) : Int)]) ∧ w' = w := by
  obtain ⟨bd, bt, bw, hhi⟩ := Lib.mul64_hi x y hx hy
  have ba := Lib.half_mul_le (a := x / 4294967296) (b := y / 4294967296) (by omega) (by omega)
  have bb := Lib.half_mul_le (a := x / 4294967296) (b := y % 4294967296) (by omega) (by omega)
  have bc := Lib.half_mul_le (a := x % 4294967296) (b := y / 4294967296) (by omega) (by omega)
  have ba' : x / 4294967296 * (y / 4294967296) < 18446744073709551616 := by omega
  have bb' : x / 4294967296 * (y % 4294967296) < 18446744073709551616 := by omega
  have bc' : x % 4294967296 * (y / 4294967296) < 18446744073709551616 := by omega
  have bh1 : x / 4294967296 * (y / 4294967296) + (x / 4294967296 * (y % 4294967296) + x % 4294967296 * (y % 4294967296) / 4294967296) / 4294967296 < 18446744073709551616 := by omega
  have bh : x / 4294967296 * (y / 4294967296) + (x / 4294967296 * (y % 4294967296) + x % 4294967296 * (y % 4294967296) / 4294967296) / 4294967296 + ((x / 4294967296 * (y % 4294967296) + x % 4294967296 * (y % 4294967296) / 4294967296) % 4294967296 + x % 4294967296 * (y / 4294967296)) / 4294967296 < 18446744073709551616 := by omega
  have hlow : ((x / 4294967296 * (y % 4294967296) + x % 4294967296 * (y % 4294967296) / 4294967296) % 4294967296 + x % 4294967296 * (y / 4294967296)) % 4294967296 * 4294967296 + x % 4294967296 * (y % 4294967296) % 4294967296 = x * y % 18446744073709551616 := by
    have e := Lib.split_mul (x / 4294967296) (x % 4294967296) (y / 4294967296) (y % 4294967296) 4294967296
    rw [Nat.div_add_mod' x 4294967296, Nat.div_add_mod' y 4294967296] at e
    rw [e]
    clear e hhi bd bt bw bh1 bh
    generalize (x / 4294967296) * (y / 4294967296) = a at *
    generalize (x / 4294967296) * (y % 4294967296) = b at *
    generalize (x % 4294967296) * (y / 4294967296) = c at *
    generalize (x % 4294967296) * (y % 4294967296) = d at *
    omega
  go_enter Try.func37, Try.ntmps37
  go_wp2
  simp only [maskN x hx, maskN y hy, divN, mulN, addN, wrapN _ bd, maskN _ bd, wrapN _ bb', wrapN _ bt, maskN _ bt, wrapN _ bc', wrapN _ bw, wrapN _ ba', wrapN _ bh1, wrapN _ bh, orN _ _ (Nat.mod_lt _ (by omega : 4294967296 > 0))]
  rw [hhi, hlow]
  go_ret2
  exact ⟨rfl, rfl⟩
end Go.Proofs.Ytnabfcpapjmgfaa
