/-
  Joined: Mul, RMul, RDiv.
-/
import Derived.Laws.Bits64b
import Derived.Lib.Mul64
import Derived.Outline
import Derived.Test.YtpdfpbbamnhkfaaGreatDoorProg
import Derived.WalkKit
import Derived.Test.YtpdfpbbamnhkfaaGreatDoorX00
import Derived.Test.YtpdfpbbamnhkfaaGreatDoorX04
namespace Go.Proofs.YtpdfpbbamnhkfaaGreatDoor
open Go.RowKit Go.Lib
theorem wrapM (a : Nat) : IntKind.u64.wrap (a : Int) = ((a % 18446744073709551616 : Nat) : Int) := by simp [IntKind.wrap_u64]
theorem wrapN (a : Nat) (ha : a < 18446744073709551616) : IntKind.u64.wrap (a : Int) = (a : Int) := by rw [wrapM, Nat.mod_eq_of_lt ha]
theorem mulN (a b : Nat) : (a : Int) * (b : Int) = ((a * b : Nat) : Int) := by simp
theorem divN (a : Nat) : (a : Int) / 4294967296 = ((a / 4294967296 : Nat) : Int) := by simp
theorem maskN (a : Nat) (ha : a < 18446744073709551616) : bits .and .u64 (a : Int) 4294967295 = ((a % 4294967296 : Nat) : Int) :=
  (bits_and_u64_nat a 4294967295 ha (by omega)).trans (congrArg Int.ofNat (Nat.and_two_pow_sub_one_eq_mod a 32))
structure Halves (x y x1 x0 y1 y0 a b c d : Nat) : Prop where
  ex0 : bits .and .u64 (x : Int) 4294967295 = (x0 : Int)
  ex1 : (x : Int) / 4294967296 = (x1 : Int)
  ey0 : bits .and .u64 (y : Int) 4294967295 = (y0 : Int)
  ey1 : (y : Int) / 4294967296 = (y1 : Int)
  ea : IntKind.u64.wrap ((x1 : Int) * (y1 : Int)) = (a : Int)
  eb : IntKind.u64.wrap ((x1 : Int) * (y0 : Int)) = (b : Int)
  ec : IntKind.u64.wrap ((x0 : Int) * (y1 : Int)) = (c : Int)
  ed : IntKind.u64.wrap ((x0 : Int) * (y0 : Int)) = (d : Int)
  hx0 : x0 < 4294967296
  hx1 : x1 < 4294967296
  hy0 : y0 < 4294967296
  hy1 : y1 < 4294967296
  ha : a ≤ 18446744065119617025
  hb : b ≤ 18446744065119617025
  hc : c ≤ 18446744065119617025
  hd : d ≤ 18446744065119617025
  em : bits .and .u64 ((b : Int) + (d : Int) / 4294967296) 4294967295 = (((b + d / 4294967296) % 4294967296 : Nat) : Int)
  whole : x * y = a * 18446744073709551616 + (b + c) * 4294967296 + d
theorem halves (x y : Nat) (hx : x < 18446744073709551616) (hy : y < 18446744073709551616) : ∃ x1 x0 y1 y0 a b c d, Halves x y x1 x0 y1 y0 a b c d := by
  have h1 : x / 4294967296 < 4294967296 := by omega
  have h0 : x % 4294967296 < 4294967296 := by omega
  have k1 : y / 4294967296 < 4294967296 := by omega
  have k0 : y % 4294967296 < 4294967296 := by omega
  have cut : ∀ u v : Nat, u < 4294967296 → v < 4294967296 → u * v ≤ 18446744065119617025 := fun u v hu hv => Nat.mul_le_mul (show u ≤ 4294967295 by omega) (show v ≤ 4294967295 by omega)
  have pw : ∀ u v : Nat, u < 4294967296 → v < 4294967296 → IntKind.u64.wrap ((u : Int) * (v : Int)) = ((u * v : Nat) : Int) := by
    intro u v hu hv
    have := cut u v hu hv
    rw [mulN, wrapN _ (by omega)]
  have bb := cut _ _ h1 k0
  have bd := cut _ _ h0 k0
  refine ⟨x / 4294967296, x % 4294967296, y / 4294967296, y % 4294967296, _, _, _, _,
    { ex0 := maskN x hx, ex1 := divN x, ey0 := maskN y hy, ey1 := divN y
      ea := pw _ _ h1 k1, eb := pw _ _ h1 k0, ec := pw _ _ h0 k1, ed := pw _ _ h0 k0
      hx0 := h0, hx1 := h1, hy0 := k0, hy1 := k1, ha := cut _ _ h1 k1, hb := bb, hc := cut _ _ h0 k1, hd := bd
      em := ?_, whole := ?_ }⟩
  · generalize x / 4294967296 * (y % 4294967296) = b at *
    generalize x % 4294967296 * (y % 4294967296) = d at *
    have e : (b : Int) + (d : Int) / 4294967296 = ((b + d / 4294967296 : Nat) : Int) := by omega
    rw [e, maskN _ (by omega)]
  · have e := Lib.split_mul (x / 4294967296) (x % 4294967296) (y / 4294967296) (y % 4294967296) 4294967296
    rw [Nat.div_add_mod', Nat.div_add_mod'] at e
    exact e
theorem mul64_any (x y : Nat) (hx : x < 18446744073709551616) (hy : y < 18446744073709551616) (w : World) :
    Calls Tryz.prog 156 #[.int .u64 x, .int .u64 y] w fun e w' => e = .returned (.tuple #[.int .u64 ((x * y / 18446744073709551616 : Nat) : Int), .int .u64 ((x * y % 18446744073709551616 : Nat) : Int)]) ∧ w' = w := by
  obtain ⟨x1, x0, y1, y0, a, b, c, d, H⟩ := halves x y hx hy
  have exy : IntKind.u64.wrap ((x : Int) * (y : Int)) = ((x * y % 18446744073709551616 : Nat) : Int) := by rw [mulN, wrapM]
  have fin : (a : Int) + ((b : Int) + (d : Int) / 4294967296) / 4294967296 + ((((b + d / 4294967296) % 4294967296 : Nat) : Int) + (c : Int)) / 4294967296 = ((x * y / 18446744073709551616 : Nat) : Int) := by
    have := H.whole
    have := H.hb
    have := H.hd
    omega
  generalize x * y / 18446744073709551616 = hi at *
  generalize x * y % 18446744073709551616 = lo at *
  have F := fin
  generalize hm : (b + d / 4294967296) % 4294967296 = m at *
  have hm2 : m < 4294967296 := by omega
  have ex0 := H.ex0; have ex1 := H.ex1; have ey0 := H.ey0; have ey1 := H.ey1; have ea := H.ea; have eb := H.eb; have ec := H.ec; have ed := H.ed
  have ha := H.ha; have hb := H.hb; have hc := H.hc; have hd := H.hd
  have em := H.em
  rw [hm] at em
  clear H hm fin
  have FF : Hid _ := F
  have hF : (a : Int) + ((b : Int) + (d : Int) / 4294967296) / 4294967296 + ((m : Int) + (c : Int)) / 4294967296 < 18446744073709551616 := by omega
  clear F
  go_enter Tryz.func156, Tryz.ntmps156
  go_wp2
  simp only [FF.out]
  go_ret2
  exact ⟨rfl, rfl⟩
theorem ret_int {k : IntKind} {a b : Int} (h : a = b) : Ending.returned (.int k a) = .returned (.int k b) := by rw [h]
theorem size_any (x : Int) (h1 : -9223372036854775808 ≤ x) (h2 : x ≤ 9223372036854775807) (w : World) :
    Calls Tryz.prog 220 #[.int .i64 x] w fun e w' => e = .returned (.int .u64 (x.natAbs : Nat)) ∧ w' = w := by
  by_cases h : x < 0
  · go_enter Tryz.func220, Tryz.ntmps220
    go_wp2
    have e : IntKind.u64.wrap (-(IntKind.u64.wrap x)) = (x.natAbs : Int) := by
      simp only [IntKind.wrap_u64]; omega
    go_ret
    exact ⟨ret_int e, rfl⟩
  · go_enter Tryz.func220, Tryz.ntmps220
    go_wp2
    have e : x = (x.natAbs : Int) := by omega
    go_ret
    exact ⟨ret_int e, rfl⟩
end Go.Proofs.YtpdfpbbamnhkfaaGreatDoor
namespace Go.Proofs.YtpdfpbbamnhkfaaGreatDoor
open Go.RowKit
theorem rsize_any (x : Int) (h1 : -9223372036854775808 ≤ x) (h2 : x ≤ 9223372036854775807) (w : World) :
    Calls Tryz.prog 222 #[.int .i64 x] w fun e w' => e = .returned (.tuple #[.int .u64 (x.natAbs : Nat), .bool (decide (x < 0))]) ∧ w' = w := by
  by_cases h : x < 0
  · obtain ⟨z, hz⟩ : ∃ z : Nat, x = -(z : Int) - 1 := ⟨(-x - 1).toNat, by omega⟩
    have e1 : (x.natAbs : Int) = (z : Int) + 1 := by omega
    have e2 : decide (x < 0) = true := by simp; omega
    rw [e1, e2]
    clear e1 e2
    have e3 : -(x + 1) = (z : Int) := by omega
    clear hz
    go_enter Tryz.func222, Tryz.ntmps222
    go_wp2
    go_ret2
    exact ⟨rfl, rfl⟩
  · have e1 : (x.natAbs : Int) = x := by omega
    have e2 : decide (x < 0) = false := by simp; omega
    rw [e1, e2]
    clear e1 e2
    go_enter Tryz.func222, Tryz.ntmps222
    go_wp2
    go_ret2
    exact ⟨rfl, rfl⟩
theorem orN (k l : Nat) (hl : l < 4294967296) : bits .or .u64 (IntKind.u64.wrap ((k : Int) * 4294967296)) (l : Int) = ((k * 4294967296 % 18446744073709551616 + l : Nat) : Int) := by
  have e : IntKind.u64.wrap ((k : Int) * 4294967296) = ((k * 4294967296 % 18446744073709551616 : Nat) : Int) := by rw [← wrapM]; simp
  have e2 : k * 4294967296 % 18446744073709551616 = 2 ^ 32 * (k % 4294967296) := by omega
  rw [e, bits_or_u64_nat _ _ (by omega) (by omega), e2, Nat.two_pow_add_eq_or_of_lt (i := 32) hl]
theorem product_any (x y : Nat) (hx : x < 18446744073709551616) (hy : y < 18446744073709551616) (w : World) :
    Calls Tryz.prog 223 #[.int .u64 x, .int .u64 y] w fun e w' => e = .returned (.tuple #[.int .u64 ((x * y / 18446744073709551616 : Nat) : Int), .int .u64 ((x * y % 18446744073709551616 : Nat) : Int)]) ∧ w' = w := by
  obtain ⟨x1, x0, y1, y0, a, b, c, d, H⟩ := halves x y hx hy
  have hw := H.whole
  have hb := H.hb; have hd := H.hd; have hc := H.hc; have ha := H.ha
  have em := H.em
  obtain ⟨m, hm⟩ : ∃ m, (b + d / 4294967296) % 4294967296 = m := ⟨_, rfl⟩
  rw [hm] at em
  have hm2 : m < 4294967296 := by omega
  have F := hide (show (a : Int) + ((b : Int) + (d : Int) / 4294967296) / 4294967296 + ((m : Int) + (c : Int)) / 4294967296 = ((x * y / 18446744073709551616 : Nat) : Int) by omega)
  have hF : (a : Int) + ((b : Int) + (d : Int) / 4294967296) / 4294967296 + ((m : Int) + (c : Int)) / 4294967296 < 18446744073709551616 := by omega
  have edm := maskN d (by omega)
  have eo := orN (m + c) (d % 4294967296) (by omega)
  have hlow : (m + c) * 4294967296 % 18446744073709551616 + d % 4294967296 = x * y % 18446744073709551616 := by omega
  rw [hlow, Int.natCast_add] at eo
  generalize x * y / 18446744073709551616 = hi at *
  generalize x * y % 18446744073709551616 = lo at *
  generalize d % 4294967296 = r at *
  have ex0 := H.ex0; have ex1 := H.ex1; have ey0 := H.ey0; have ey1 := H.ey1; have ea := H.ea; have eb := H.eb; have ec := H.ec; have ed := H.ed
  clear H hw hm hlow
  go_enter Tryz.func223, Tryz.ntmps223
  go_wp2
  simp only [F.out]
  go_ret2
  exact ⟨rfl, rfl⟩
end Go.Proofs.YtpdfpbbamnhkfaaGreatDoor
namespace Go.Proofs.YtpdfpbbamnhkfaaGreatDoor
open Go.RowKit
theorem or1 (a t : Nat) (ht : t < 2) (ha : a < 9223372036854775808) : bits .or .u64 ((a : Int) * 2) (t : Int) = ((a * 2 + t : Nat) : Int) := by
  have e : (a : Int) * 2 = ((a * 2 : Nat) : Int) := by omega
  have h := Nat.two_pow_add_eq_or_of_lt (i := 1) (b := t) ht a
  rw [e, bits_or_u64_nat _ _ (by omega) (by omega), Nat.mul_comm, ← h]
theorem and1 (a : Nat) (ha : a < 18446744073709551616) : bits .and .u64 (a : Int) 1 = ((a % 2 : Nat) : Int) := by
  have h := bits_and_u64_nat a 1 ha (by omega)
  rw [Nat.and_one_is_mod] at h
  exact h
theorem and63 (j : Nat) (hj : j < 64) : bits .and .i64 (j : Int) 63 = (j : Int) := by
  have h : ∀ i : Fin 64, bits .and .i64 ((i.val : Nat) : Int) 63 = ((i.val : Nat) : Int) := by decide +kernel
  exact h ⟨j, hj⟩
theorem divP (a s : Nat) : (a : Int) / 2 ^ s = ((a / 2 ^ s : Nat) : Int) := by simp
structure Round (hi lo c j qh ql r t r2 qh2 ql2 : Nat) : Prop where
  ebh : 64 ≤ j → bits .and .u64 ((hi : Int) / 2 ^ (j - 64)) 1 = (t : Int)
  ebl : j < 64 → bits .and .u64 ((lo : Int) / 2 ^ j) 1 = (t : Int)
  er : bits .or .u64 ((r : Int) * 2) (t : Int) = (r2 : Int)
  eh : bits .or .u64 ((qh : Int) * 2) ((ql : Int) / 9223372036854775808) = (qh2 : Int)
  el : IntKind.u64.wrap ((ql : Int) * 2) = (ql2 : Int)
  el1 : bits .or .u64 (ql2 : Int) 1 = ((ql2 + 1 : Nat) : Int)
  hr : r < c
  hqh : qh < 9223372036854775808
  hql : ql < 18446744073709551616
  hr2 : r2 < 18446744073709551616
  hge : c ≤ r2 → qh2 = (hi * 18446744073709551616 + lo) / 2 ^ j / c / 18446744073709551616 ∧ ql2 + 1 = (hi * 18446744073709551616 + lo) / 2 ^ j / c % 18446744073709551616 ∧ r2 - c = (hi * 18446744073709551616 + lo) / 2 ^ j % c
  hlt : r2 < c → qh2 = (hi * 18446744073709551616 + lo) / 2 ^ j / c / 18446744073709551616 ∧ ql2 = (hi * 18446744073709551616 + lo) / 2 ^ j / c % 18446744073709551616 ∧ r2 = (hi * 18446744073709551616 + lo) / 2 ^ j % c
theorem round_of (hi lo c j qh ql r : Nat) (hhi : hi < 18446744073709551616) (hlo : lo < 18446744073709551616) (c1 : 1 ≤ c) (c2 : c < 9223372036854775808)
    (h1 : qh = (hi * 18446744073709551616 + lo) / 2 ^ (j + 1) / c / 18446744073709551616) (h2 : ql = (hi * 18446744073709551616 + lo) / 2 ^ (j + 1) / c % 18446744073709551616)
    (h3 : r = (hi * 18446744073709551616 + lo) / 2 ^ (j + 1) % c) : ∃ t r2 qh2 ql2, Round hi lo c j qh ql r t r2 qh2 ql2 := by
  have hN : hi * 18446744073709551616 + lo < 340282366920938463463374607431768211456 := by omega
  have hb := fun h => RDivMath.bit_hi hi lo j hlo h
  have hb2 := fun h => RDivMath.bit_lo hi lo j h
  have st := RDivMath.step (hi * 18446744073709551616 + lo) c j c1
  have ql0 := RDivMath.quot_lt (hi * 18446744073709551616 + lo) c j hN
  have hrc : (hi * 18446744073709551616 + lo) / 2 ^ (j + 1) % c < c := Nat.mod_lt _ c1
  rw [← h3] at st hrc
  have wd := RDivMath.words ((hi * 18446744073709551616 + lo) / 2 ^ (j + 1) / c)
  rw [← h1, ← h2] at wd
  obtain ⟨w1, w2, w3, w4⟩ := wd
  have hqh : qh < 9223372036854775808 := by omega
  have hql : ql < 18446744073709551616 := by omega
  have ht : (hi * 18446744073709551616 + lo) / 2 ^ j % 2 < 2 := Nat.mod_lt _ (by omega)
  refine ⟨(hi * 18446744073709551616 + lo) / 2 ^ j % 2, r * 2 + (hi * 18446744073709551616 + lo) / 2 ^ j % 2, qh * 2 + ql / 9223372036854775808, ql * 2 % 18446744073709551616,
    { ebh := ?_, ebl := ?_, er := or1 r _ ht (by omega)
      eh := ?_, el := ?_, el1 := ?_, hr := hrc, hqh := hqh, hql := hql, hr2 := by omega, hge := ?_, hlt := ?_ }⟩
  · intro h
    rw [divP, and1 _ (Nat.lt_of_le_of_lt (Nat.div_le_self _ _) hhi), hb h]
  · intro h
    rw [divP, and1 _ (Nat.lt_of_le_of_lt (Nat.div_le_self _ _) hlo), hb2 h]
  · have e : (ql : Int) / 9223372036854775808 = ((ql / 9223372036854775808 : Nat) : Int) := by omega
    rw [e, or1 qh _ (by omega) hqh]
  · rw [IntKind.wrap_u64]; omega
  · have e : ((ql * 2 % 18446744073709551616 : Nat) : Int) = ((ql % 9223372036854775808 : Nat) : Int) * 2 := by omega
    have e1 := or1 (ql % 9223372036854775808) 1 (by omega) (by omega)
    rw [e]
    rw [show ((1 : Nat) : Int) = 1 from rfl] at e1
    rw [e1]
    omega
  · intro h
    obtain ⟨s1, s2⟩ := st.1 (by omega)
    rw [s1, s2, w3, w4]
    refine ⟨rfl, rfl, by omega⟩
  · intro h
    obtain ⟨s1, s2⟩ := st.2 (by omega)
    rw [s1, s2, w1, w2]
    refine ⟨rfl, rfl, by omega⟩
set_option maxHeartbeats 1000000 in
theorem rdivide_any (hi lo c : Nat) (hhi : hi < 18446744073709551616) (hlo : lo < 18446744073709551616) (c1 : 1 ≤ c) (c2 : c < 9223372036854775808) (w : World) :
    Calls Tryz.prog 224 #[.int .u64 hi, .int .u64 lo, .int .u64 c] w fun e w' => e = .returned (.tuple #[.int .u64 (((hi * 18446744073709551616 + lo) / c / 18446744073709551616 : Nat) : Int), .int .u64 (((hi * 18446744073709551616 + lo) / c % 18446744073709551616 : Nat) : Int), .int .u64 (((hi * 18446744073709551616 + lo) % c : Nat) : Int)]) ∧ w' = w := by
  go_enter Tryz.func224, Tryz.ntmps224
  go_wp2
  go_loop [9, 10, 11, 12, 13] (fun vh vl vr vi _ => ∃ k qh ql r : Nat, vi = .int .i64 ((k : Int) - 1) ∧ vh = .int .u64 qh ∧ vl = .int .u64 ql ∧ vr = .int .u64 r ∧ Hid (k ≤ 128 ∧ qh = (hi * 18446744073709551616 + lo) / 2 ^ k / c / 18446744073709551616 ∧ ql = (hi * 18446744073709551616 + lo) / 2 ^ k / c % 18446744073709551616 ∧ r = (hi * 18446744073709551616 + lo) / 2 ^ k % c)) (fun _ _ _ vi _ => (RowKit.intOf vi + 1).toNat)
  case atStart =>
    have e : (hi * 18446744073709551616 + lo) / 2 ^ 128 = 0 := Nat.div_eq_of_lt (by omega)
    exact ⟨128, 0, 0, 0, rfl, rfl, rfl, rfl, hide ⟨by omega, by rw [e]; simp, by rw [e]; simp, by rw [e]; simp⟩⟩
  case round =>
    obtain ⟨k, qh, ql, r, rfl, rfl, rfl, rfl, HK⟩ := hrel
    by_cases hk : k = 0
    · subst hk
      obtain ⟨k1, k2, k3, k4⟩ := HK.out
      rw [Nat.pow_zero, Nat.div_one] at k2 k3 k4
      clear k1 HK
      subst k2 k3 k4
      rw [show (((0 : Nat) : Int) - 1) = -1 by omega]
      go_wp2
      go_ret3
      exact ⟨rfl, rfl⟩
    · obtain ⟨j, rfl⟩ : ∃ j, k = j + 1 := ⟨k - 1, by omega⟩
      rw [show (((j + 1 : Nat) : Int) - 1) = (j : Int) by omega]
      obtain ⟨k1, k2, k3, k4⟩ := HK.out
      obtain ⟨t, r2, qh2, ql2, R⟩ := round_of hi lo c j qh ql r hhi hlo c1 c2 k2 k3 k4
      have HR := hide R
      have er := R.er; have eh := R.eh; have el := R.el; have el1 := R.el1; have hr := R.hr; have hqh := R.hqh; have hql := R.hql; have hr2 := R.hr2
      have ebh := R.ebh; have ebl := R.ebl
      have hj : (j : Int) ≤ 127 := by omega
      clear k2 k3 k4 R hk HK k1
      by_cases h64 : 64 ≤ j
      · have eb := ebh h64
        have i64 : (64 : Int) ≤ (j : Int) := by omega
        clear ebh ebl h64
        by_cases hc : c ≤ r2
        · go_wp2
          go_round
          case rel => exact ⟨j, qh2, ql2 + 1, r2 - c, by go_num, rfl, rfl, by go_num, hide ⟨by omega, HR.out.hge hc⟩⟩
          case measure => simp [RowKit.intOf]
        · go_wp2
          go_round
          case rel => exact ⟨j, qh2, ql2, r2, by go_num, rfl, rfl, rfl, hide ⟨by omega, HR.out.hlt (by omega)⟩⟩
          case measure => simp [RowKit.intOf]
      · have eb := ebl (by omega)
        have ej := and63 j (by omega)
        have i64 : (j : Int) < 64 := by omega
        clear ebh ebl h64
        by_cases hc : c ≤ r2
        · go_wp2
          go_round
          case rel => exact ⟨j, qh2, ql2 + 1, r2 - c, by go_num, rfl, rfl, by go_num, hide ⟨by omega, HR.out.hge hc⟩⟩
          case measure => simp [RowKit.intOf]
        · go_wp2
          go_round
          case rel => exact ⟨j, qh2, ql2, r2, by go_num, rfl, rfl, rfl, hide ⟨by omega, HR.out.hlt (by omega)⟩⟩
          case measure => simp [RowKit.intOf]
end Go.Proofs.YtpdfpbbamnhkfaaGreatDoor
