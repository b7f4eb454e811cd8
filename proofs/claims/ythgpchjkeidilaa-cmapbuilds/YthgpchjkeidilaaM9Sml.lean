/-
  What the landed number, signed, says, within and the reference's U2, S2 answer.
-/
import Derived.Test.YthgpchjkeidilaaM9P
import Derived.Test.YthgpchjkeidilaaS8Row
import Derived.Laws.BitsLemmas
import Derived.Deep.QuietTactic
import Derived.BigQuiet
import Derived.Deep.RegionHeld3
namespace Go.Proofs.Ythgpchjkeidilaa
open Go.RowKit Go.Deep
set_option linter.unusedVariables false

theorem or_bytes (x y : Int) (hx0 : 0 ≤ x) (hx : x < 256) (hy0 : 0 ≤ y) (hy : y < 256) : bits .or .i64 (x * 256) y = x * 256 + y :=
  bits_join .i64 62 (by decide) (fun n h0 h1 => by rw [IntKind.wrap_i64]; omega) 8 (x * 256) y (by omega) (by omega) (by omega) hy0 (by omega) (by omega)
theorem getD_at (s : ByteArray) (j : Nat) (h : j < s.size) : s.data.toList.getD j 0 = s[j] := by
  rw [List.getD_eq_getElem?_getD, List.getElem?_eq_getElem (by rw [← Lib.size_eq]; exact h)]
  rfl
theorem bt_at (s : ByteArray) (j : Nat) (h : j < s.size) : bt s.data.toList j = s[j].toNat := by unfold bt; rw [getD_at s j h]
theorem wrap_i16 (n : Int) : IntKind.i16.wrap n = (n + 32768) % 65536 - 32768 := by
  simp only [IntKind.wrap, IntKind.bits, IntKind.signed]
  simp
  omega
def eqS (a b : ByteArray) : Bool := a.toList == b.toList
theorem eqS_iff (a b : ByteArray) : eqS a b = true ↔ a = b := by
  unfold eqS
  rw [beq_iff_eq, Lib.toList_data, Lib.toList_data]
  constructor
  · intro h
    cases a with | mk a => cases b with | mk b => simp at h; rw [h]
  · intro h; rw [h]
theorem eqS_no {a b : ByteArray} (h : a ≠ b) : eqS a b = false := by
  cases e : eqS a b with
  | false => rfl
  | true => exact absurd ((eqS_iff a b).1 e) h
end Go.Proofs.Ythgpchjkeidilaa
