/-
  What the reference's Times answers, of any ints.
-/
import Derived.Test.YtnabfcpapjmgfaaRBase
import Derived.Test.YtnabfcpapjmgfaaScale
import Derived.WalkKit
import Derived.Outline
namespace Go.Proofs.Ytnabfcpapjmgfaa
open Go.RowKit

theorem lim (X Y : Int) (hX : 1 ≤ X) : (1099511627776 / X < Y) ↔ 1099511627776 < X * Y := by
  rw [Int.ediv_lt_iff_lt_mul (by omega), Int.mul_comm]

theorem tm_eq (a n : Int) (h : inB a = true) : tmV a n = tolV (a * n) ∧ tmB a n = inB (a * n) := by
  unfold tmV tmB
  rw [h, (fl_one a n).1, (fl_one a n).2]
  simp

theorem big_mul (a n : Int) (ha : a ≠ 0) (hn : inB n = false) : inB (a * n) = false := by
  cases h : inB (a * n)
  · rfl
  · exfalso
    have h1 := inB_bd h
    have h3 : n.natAbs ≤ (a * n).natAbs := by
      rw [Int.natAbs_mul]
      exact Nat.le_mul_of_pos_left _ (by omega)
    have : inB n = true := inB_t (by omega) (by omega)
    rw [this] at hn; exact absurd hn (by simp)

theorem rtimes_any (a n : Int) (n1 : -9223372036854775808 ≤ n) (n2 : n ≤ 9223372036854775807) (w : World) :
    Calls Try.prog 17 #[.int .i64 a, .int .i64 n] w fun e w' =>
      e = .returned (.tuple #[.int .i64 (tmV a n), .bool (tmB a n)]) ∧ w' = w := by
  cases h : inB a
  · rw [show tmV a n = 0 by simp [tmV, h], show tmB a n = false by simp [tmB, h]]
    go_enter Try.func17, Try.ntmps17
    go_wp2_with (go_at_call 14; refine (rin_any _ _).mono ?_; rintro e w' ⟨rfl, rfl⟩)
    go_ret2
    exact ⟨rfl, rfl⟩
  rw [(tm_eq a n h).1, (tm_eq a n h).2]
  by_cases ha0 : a = 0
  · subst ha0
    rw [Int.zero_mul, show tolV 0 = 0 by decide, show inB 0 = true by decide]
    have h' : inB 0 = true := h
    go_enter Try.func17, Try.ntmps17
    go_wp2_with (go_at_call 14; refine (rin_any _ _).mono ?_; rintro e w' ⟨rfl, rfl⟩)
    go_ret2
    exact ⟨rfl, rfl⟩
  have ha1 : (a == 0) = false := by rw [beq_eq_false_iff_ne]; exact ha0
  cases hn : inB n
  · have hb := big_mul a n ha0 hn
    rw [tolV_f hb, hb]
    clear ha0 hb
    go_enter Try.func17, Try.ntmps17
    go_wp2_with (go_at_call 14; refine (rin_any _ _).mono ?_; rintro e w' ⟨rfl, rfl⟩)
    go_ret2
    exact ⟨rfl, rfl⟩
  have ba := inB_bd h
  have bn := inB_bd hn
  have hma : (a * n).natAbs = a.natAbs * n.natAbs := Int.natAbs_mul a n
  have hmi : ((a.natAbs * n.natAbs : Nat) : Int) = (a.natAbs : Int) * (n.natAbs : Int) := Int.natCast_mul _ _
  obtain ⟨X, hX⟩ : ∃ X : Int, (a.natAbs : Int) = X := ⟨_, rfl⟩
  obtain ⟨Y, hY⟩ : ∃ Y : Int, (n.natAbs : Int) = Y := ⟨_, rfl⟩
  rw [hX, hY] at hmi
  have hl := lim X Y (by omega)
  have dec : (inB (a * n) = true ∧ decide (1099511627776 / X < Y) = false ∧ wrap64 (a * n) = a * n) ∨ (inB (a * n) = false ∧ decide (1099511627776 / X < Y) = true) := by
    by_cases hp : X * Y ≤ 1099511627776
    · refine Or.inl ⟨inB_t (by omega) (by omega), by rw [decide_eq_false_iff_not, hl]; omega, ?_⟩
      exact IntWalk.wrap64_in _ ⟨by omega, by omega⟩
    · exact Or.inr ⟨inB_f (by omega), by rw [decide_eq_true_eq, hl]; omega⟩
  have hX1 : 1 ≤ X := by omega
  have hX2 : X ≤ 1099511627776 := by omega
  have hXa : (a < 0 ∧ -a = X) ∨ (0 ≤ a ∧ X = a) := by omega
  have hYn : (n < 0 ∧ -n = Y) ∨ (0 ≤ n ∧ Y = n) := by omega
  clear hX hY hma hmi hl ha0
  rcases hXa with ⟨sa, ea⟩ | ⟨sa, rfl⟩ <;> rcases hYn with ⟨sn, en⟩ | ⟨sn, rfl⟩ <;> rcases dec with ⟨d1, d2, d3⟩ | ⟨d1, d2⟩
  all_goals first
    | rw [tolV_t d1, d1]
    | rw [tolV_f d1, d1]
  all_goals
    go_enter Try.func17, Try.ntmps17
    go_wp2_with (go_at_call 14; refine (rin_any _ _).mono ?_; rintro e w' ⟨rfl, rfl⟩)
    try simp only [d3]
    go_ret2
    exact ⟨rfl, rfl⟩
end Go.Proofs.Ytnabfcpapjmgfaa
