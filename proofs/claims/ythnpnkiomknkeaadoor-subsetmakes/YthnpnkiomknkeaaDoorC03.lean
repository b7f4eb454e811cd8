/-
  Joined: Mul.
-/
import Derived.Laws.Bits64b
import Derived.Lib.Mul64
import Derived.Outline
import Derived.Test.YthnpnkiomknkeaaDoorProg
import Derived.WalkKit
namespace Go.Proofs.YthnpnkiomknkeaaDoor
open Go.RowKit Go.Lib
theorem wrapM (a : Nat) : IntKind.u64.wrap (a : Int) = ((a % 18446744073709551616 : Nat) : Int) := by simp [IntKind.wrap_u64]
theorem wrapN (a : Nat) (ha : a < 18446744073709551616) : IntKind.u64.wrap (a : Int) = (a : Int) := by rw [wrapM, Nat.mod_eq_of_lt ha]
theorem mulN (a b : Nat) : (a : Int) * (b : Int) = ((a * b : Nat) : Int) := by simp
theorem divN (a : Nat) : (a : Int) / 4294967296 = ((a / 4294967296 : Nat) : Int) := by simp
theorem maskN (a : Nat) (ha : a < 18446744073709551616) : bits .and .u64 (a : Int) 4294967295 = ((a % 4294967296 : Nat) : Int) :=
  (bits_and_u64_nat a 4294967295 ha (by omega)).trans (congrArg Int.ofNat (Nat.and_two_pow_sub_one_eq_mod a 32))
structure Halves (x y x1 x0 y1 y0 a b c d : Nat) : Prop where
  ex0 : bits .and .u64 (x : Int) 4294967295 = (x0 : Int)
  ex1 : (x : Int) / 4294967296 = (x1 : Int)
  ey0 : bits .and .u64 (y : Int) 4294967295 = (y0 : Int)
  ey1 : (y : Int) / 4294967296 = (y1 : Int)
  ea : IntKind.u64.wrap ((x1 : Int) * (y1 : Int)) = (a : Int)
  eb : IntKind.u64.wrap ((x1 : Int) * (y0 : Int)) = (b : Int)
  ec : IntKind.u64.wrap ((x0 : Int) * (y1 : Int)) = (c : Int)
  ed : IntKind.u64.wrap ((x0 : Int) * (y0 : Int)) = (d : Int)
  hx0 : x0 < 4294967296
  hx1 : x1 < 4294967296
  hy0 : y0 < 4294967296
  hy1 : y1 < 4294967296
  ha : a ≤ 18446744065119617025
  hb : b ≤ 18446744065119617025
  hc : c ≤ 18446744065119617025
  hd : d ≤ 18446744065119617025
  em : bits .and .u64 ((b : Int) + (d : Int) / 4294967296) 4294967295 = (((b + d / 4294967296) % 4294967296 : Nat) : Int)
  whole : x * y = a * 18446744073709551616 + (b + c) * 4294967296 + d
theorem halves (x y : Nat) (hx : x < 18446744073709551616) (hy : y < 18446744073709551616) : ∃ x1 x0 y1 y0 a b c d, Halves x y x1 x0 y1 y0 a b c d := by
  have h1 : x / 4294967296 < 4294967296 := by omega
  have h0 : x % 4294967296 < 4294967296 := by omega
  have k1 : y / 4294967296 < 4294967296 := by omega
  have k0 : y % 4294967296 < 4294967296 := by omega
  have cut : ∀ u v : Nat, u < 4294967296 → v < 4294967296 → u * v ≤ 18446744065119617025 := fun u v hu hv => Nat.mul_le_mul (show u ≤ 4294967295 by omega) (show v ≤ 4294967295 by omega)
  have pw : ∀ u v : Nat, u < 4294967296 → v < 4294967296 → IntKind.u64.wrap ((u : Int) * (v : Int)) = ((u * v : Nat) : Int) := by
    intro u v hu hv
    have := cut u v hu hv
    rw [mulN, wrapN _ (by omega)]
  have bb := cut _ _ h1 k0
  have bd := cut _ _ h0 k0
  refine ⟨x / 4294967296, x % 4294967296, y / 4294967296, y % 4294967296, _, _, _, _,
    { ex0 := maskN x hx, ex1 := divN x, ey0 := maskN y hy, ey1 := divN y
      ea := pw _ _ h1 k1, eb := pw _ _ h1 k0, ec := pw _ _ h0 k1, ed := pw _ _ h0 k0
      hx0 := h0, hx1 := h1, hy0 := k0, hy1 := k1, ha := cut _ _ h1 k1, hb := bb, hc := cut _ _ h0 k1, hd := bd
      em := ?_, whole := ?_ }⟩
  · generalize x / 4294967296 * (y % 4294967296) = b at *
    generalize x % 4294967296 * (y % 4294967296) = d at *
    have e : (b : Int) + (d : Int) / 4294967296 = ((b + d / 4294967296 : Nat) : Int) := by omega
    rw [e, maskN _ (by omega)]
  · have e := Lib.split_mul (x / 4294967296) (x % 4294967296) (y / 4294967296) (y % 4294967296) 4294967296
    rw [Nat.div_add_mod', Nat.div_add_mod'] at e
    exact e
theorem mul64_any (x y : Nat) (hx : x < 18446744073709551616) (hy : y < 18446744073709551616) (w : World) :
    Calls Tryd.prog 76 #[.int .u64 x, .int .u64 y] w fun e w' => e = .returned (.tuple #[.int .u64 ((x * y / 18446744073709551616 : Nat) : Int), .int .u64 ((x * y % 18446744073709551616 : Nat) : Int)]) ∧ w' = w := by
  obtain ⟨x1, x0, y1, y0, a, b, c, d, H⟩ := halves x y hx hy
  have exy : IntKind.u64.wrap ((x : Int) * (y : Int)) = ((x * y % 18446744073709551616 : Nat) : Int) := by rw [mulN, wrapM]
  have fin : (a : Int) + ((b : Int) + (d : Int) / 4294967296) / 4294967296 + ((((b + d / 4294967296) % 4294967296 : Nat) : Int) + (c : Int)) / 4294967296 = ((x * y / 18446744073709551616 : Nat) : Int) := by
    have := H.whole
    have := H.hb
    have := H.hd
    omega
  generalize x * y / 18446744073709551616 = hi at *
  generalize x * y % 18446744073709551616 = lo at *
  have F := fin
  generalize hm : (b + d / 4294967296) % 4294967296 = m at *
  have hm2 : m < 4294967296 := by omega
  have ex0 := H.ex0; have ex1 := H.ex1; have ey0 := H.ey0; have ey1 := H.ey1; have ea := H.ea; have eb := H.eb; have ec := H.ec; have ed := H.ed
  have ha := H.ha; have hb := H.hb; have hc := H.hc; have hd := H.hd
  have em := H.em
  rw [hm] at em
  clear H hm fin
  have FF : Hid _ := F
  have hF : (a : Int) + ((b : Int) + (d : Int) / 4294967296) / 4294967296 + ((m : Int) + (c : Int)) / 4294967296 < 18446744073709551616 := by omega
  clear F
  go_enter Tryd.func76, Tryd.ntmps76
  go_wp2
  simp only [FF.out]
  go_ret2
  exact ⟨rfl, rfl⟩
end Go.Proofs.YthnpnkiomknkeaaDoor
