/-
  What digits.allDigits and digits.wholeNumber answer.
-/
import Derived.Test.YthhhepbflggojaaDoorE2Scan
namespace Go.Proofs.YthhhepbflggojaaDoor.D2
set_option maxRecDepth 8000
open Go.RowKit

def digs (l : List UInt8) : Bool := l.all isDig && !l.isEmpty
def dv (c : UInt8) : Nat := c.toNat - 48
def val (l : List UInt8) : Nat := l.foldl (fun a c => 10 * a + dv c) 0

theorem get_byte' (s : ByteArray) (k : Nat) (h : k < s.size) : s.data.toList[k]? = some s[k] := by
  rw [List.getElem?_eq_getElem (by simpa using h)]
  rfl
theorem take_byte (s : ByteArray) (k : Nat) (h : k < s.size) : s.data.toList.take (k + 1) = s.data.toList.take k ++ [s[k]] := by
  rw [List.take_add_one, get_byte' s k h]
  rfl
theorem val_snoc (l : List UInt8) (c : UInt8) : val (l ++ [c]) = 10 * val l + dv c := by simp [val]
theorem dv_le (c : UInt8) (h : isDig c = true) : dv c ≤ 9 ∧ (c.toNat : Int) = 48 + (dv c : Int) := by unfold isDig at h; unfold dv; simp at h; omega
theorem val_lt (l : List UInt8) (h : l.all isDig = true) : val l < 10 ^ l.length := by
  have : ∀ (m : List UInt8), m.all isDig = true → val m.reverse < 10 ^ m.length := by
    intro m
    induction m with
    | nil => intro _; decide
    | cons c m ih =>
      intro h
      simp only [List.all_cons, Bool.and_eq_true] at h
      rw [List.reverse_cons, val_snoc, List.length_cons, Nat.pow_succ]
      have := ih h.2
      have := (dv_le c h.1).1
      omega
  have := this l.reverse (by rw [List.all_reverse]; exact h)
  rwa [List.reverse_reverse, List.length_reverse] at this

end Go.Proofs.YthhhepbflggojaaDoor.D2
