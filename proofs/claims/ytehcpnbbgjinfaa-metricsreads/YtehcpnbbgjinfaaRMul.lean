/-
  What the reference's size and product answer.
-/
import Derived.Test.YtehcpnbbgjinfaaBase
import Derived.Test.YtehcpnbbgjinfaaMul
import Derived.WalkKit
import Derived.Outline
namespace Go.Proofs.Ytehcpnbbgjinfaa
open Go.RowKit

theorem rsize_any (x : Int) (h1 : -9223372036854775808 ≤ x) (h2 : x ≤ 9223372036854775807) (w : World) :
    Calls Try.prog 63 #[.int .i64 x] w fun e w' => e = .returned (.tuple #[.int .u64 (x.natAbs : Nat), .bool (decide (x < 0))]) ∧ w' = w := by
  by_cases h : x < 0
  · obtain ⟨z, hz⟩ : ∃ z : Nat, x = -(z : Int) - 1 := ⟨(-x - 1).toNat, by omega⟩
    have e1 : (x.natAbs : Int) = (z : Int) + 1 := by omega
    have e2 : decide (x < 0) = true := by simp; omega
    rw [e1, e2]
    clear e1 e2
    have e3 : -(x + 1) = (z : Int) := by omega
    clear hz
    go_enter Try.func63, Try.ntmps63
    go_wp2
    go_ret2
    exact ⟨rfl, rfl⟩
  · have e1 : (x.natAbs : Int) = x := by omega
    have e2 : decide (x < 0) = false := by simp; omega
    rw [e1, e2]
    clear e1 e2
    go_enter Try.func63, Try.ntmps63
    go_wp2
    go_ret2
    exact ⟨rfl, rfl⟩

theorem orN (k l : Nat) (hl : l < 4294967296) : bits .or .u64 (IntKind.u64.wrap ((k : Int) * 4294967296)) (l : Int) = ((k * 4294967296 % 18446744073709551616 + l : Nat) : Int) := by
  have e : IntKind.u64.wrap ((k : Int) * 4294967296) = ((k * 4294967296 % 18446744073709551616 : Nat) : Int) := by rw [← wrapM]; simp
  have e2 : k * 4294967296 % 18446744073709551616 = 2 ^ 32 * (k % 4294967296) := by omega
  rw [e, bits_or_u64_nat _ _ (by omega) (by omega), e2, Nat.two_pow_add_eq_or_of_lt (i := 32) hl]

theorem product_any (x y : Nat) (hx : x < 18446744073709551616) (hy : y < 18446744073709551616) (w : World) :
    Calls Try.prog 64 #[.int .u64 x, .int .u64 y] w fun e w' => e = .returned (.tuple #[.int .u64 ((x * y / 18446744073709551616 : Nat) : Int), .int .u64 ((x * y % 18446744073709551616 : Nat) : Int)]) ∧ w' = w := by
  obtain ⟨x1, x0, y1, y0, a, b, c, d, H⟩ := halves x y hx hy
  have hw := H.whole
  have hb := H.hb; have hd := H.hd; have hc := H.hc; have ha := H.ha
  have em := H.em
  obtain ⟨m, hm⟩ : ∃ m, (b + d / 4294967296) % 4294967296 = m := ⟨_, rfl⟩
  rw [hm] at em
  have hm2 : m < 4294967296 := by omega
  have F := hide (show (a : Int) + ((b : Int) + (d : Int) / 4294967296) / 4294967296 + ((m : Int) + (c : Int)) / 4294967296 = ((x * y / 18446744073709551616 : Nat) : Int) by omega)
  have hF : (a : Int) + ((b : Int) + (d : Int) / 4294967296) / 4294967296 + ((m : Int) + (c : Int)) / 4294967296 < 18446744073709551616 := by omega
  have edm := maskN d (by omega)
  have eo := orN (m + c) (d % 4294967296) (by omega)
  have hlow : (m + c) * 4294967296 % 18446744073709551616 + d % 4294967296 = x * y % 18446744073709551616 := by omega
  rw [hlow, Int.natCast_add] at eo
  generalize x * y / 18446744073709551616 = hi at *
  generalize x * y % 18446744073709551616 = lo at *
  generalize d % 4294967296 = r at *
  have ex0 := H.ex0; have ex1 := H.ex1; have ey0 := H.ey0; have ey1 := H.ey1; have ea := H.ea; have eb := H.eb; have ec := H.ec; have ed := H.ed
  clear H hw hm hlow
  go_enter Try.func64, Try.ntmps64
  go_wp2
  simp only [F.out]
  go_ret2
  exact ⟨rfl, rfl⟩
end Go.Proofs.Ytehcpnbbgjinfaa
