/-
  The sum of bytes, in plain words. Pure.
-/
import Derived.Test.YtgmmhlpdkoiheaaDoorHide
namespace Go.Proofs.YtgmmhlpdkoiheaaDoor

def sumA : List UInt8 → Nat → Nat
  | [], _ => 0
  | c :: r, i => c.toNat * 2 ^ (24 - 8 * (i % 4)) + sumA r (i + 1)
def sumV (l : List UInt8) : Nat := sumA l 0 % 4294967296
theorem sumA_append : ∀ (a b : List UInt8) (i : Nat), sumA (a ++ b) i = sumA a i + sumA b (i + a.length)
  | [], b, i => by simp [sumA]
  | c :: r, b, i => by
    rw [List.cons_append, sumA, sumA, sumA_append r b (i + 1), List.length_cons, show i + 1 + r.length = i + (r.length + 1) by omega]
    omega
theorem sumA_four : ∀ (a : List UInt8) (i : Nat), sumA a (i + 4) = sumA a i
  | [], i => rfl
  | c :: r, i => by
    rw [sumA, sumA, show i + 4 + 1 = i + 1 + 4 by omega, sumA_four r (i + 1), show (i + 4) % 4 = i % 4 by omega]
theorem sumA_fours (a : List UInt8) : ∀ (k i : Nat), sumA a (i + 4 * k) = sumA a i
  | 0, i => rfl
  | k + 1, i => by rw [show i + 4 * (k + 1) = (i + 4 * k) + 4 by omega, sumA_four, sumA_fours a k i]
theorem sumA_zeros : ∀ (k i : Nat), sumA (List.replicate k 0) i = 0
  | 0, _ => rfl
  | k + 1, i => by rw [List.replicate_succ, sumA, sumA_zeros k]; simp
theorem sumV_lt (l : List UInt8) : sumV l < 4294967296 := Nat.mod_lt _ (by omega)
def padT (l : List UInt8) : List UInt8 := l ++ List.replicate ((4 - l.length % 4) % 4) 0
theorem padT_len (l : List UInt8) : (padT l).length % 4 = 0 := by
  unfold padT; rw [List.length_append, List.length_replicate]; omega
theorem sumV_pad (l : List UInt8) : sumV (padT l) = sumV l := by
  unfold sumV padT; rw [sumA_append, sumA_zeros, Nat.add_zero]
theorem sumV_adds (a b : List UInt8) (h : a.length % 4 = 0) : sumV (a ++ b) = (sumV a + sumV b) % 4294967296 := by
  unfold sumV
  rw [sumA_append, show 0 + a.length = 0 + 4 * (a.length / 4) by omega, sumA_fours, ← Nat.add_mod]
theorem sumA_snoc (l : List UInt8) (c : UInt8) : sumA (l ++ [c]) 0 = sumA l 0 + c.toNat * 2 ^ (24 - 8 * (l.length % 4)) := by
  rw [sumA_append]; simp [sumA]
end Go.Proofs.YtgmmhlpdkoiheaaDoor
