/-
  What the landed number, signed, says, within and the reference's U2, S2 answer.
-/
import Derived.Test.YtkmmphpaaahajaaM9P
import Derived.Test.YtkmmphpaaahajaaS8Row
import Derived.Laws.BitsLemmas
import Derived.Deep.QuietTactic
import Derived.BigQuiet
import Derived.Deep.RegionHeld3
namespace Go.Proofs.Ytkmmphpaaahajaa
open Go.RowKit Go.Deep
set_option linter.unusedVariables false

theorem or_bytes (x y : Int) (hx0 : 0 ≤ x) (hx : x < 256) (hy0 : 0 ≤ y) (hy : y < 256) : bits .or .i64 (x * 256) y = x * 256 + y :=
  bits_join .i64 62 (by decide) (fun n h0 h1 => by rw [IntKind.wrap_i64]; omega) 8 (x * 256) y (by omega) (by omega) (by omega) hy0 (by omega) (by omega)
theorem getD_at (s : ByteArray) (j : Nat) (h : j < s.size) : s.data.toList.getD j 0 = s[j] := by
  rw [List.getD_eq_getElem?_getD, List.getElem?_eq_getElem (by rw [← Lib.size_eq]; exact h)]
  rfl
theorem bt_at (s : ByteArray) (j : Nat) (h : j < s.size) : bt s.data.toList j = s[j].toNat := by unfold bt; rw [getD_at s j h]
theorem wrap_i16 (n : Int) : IntKind.i16.wrap n = (n + 32768) % 65536 - 32768 := by
  simp only [IntKind.wrap, IntKind.bits, IntKind.signed]
  simp
  omega
def eqS (a b : ByteArray) : Bool := a.toList == b.toList
theorem eqS_iff (a b : ByteArray) : eqS a b = true ↔ a = b := by
  unfold eqS
  rw [beq_iff_eq, Lib.toList_data, Lib.toList_data]
  constructor
  · intro h
    cases a with | mk a => cases b with | mk b => simp at h; rw [h]
  · intro h; rw [h]
theorem eqS_no {a b : ByteArray} (h : a ≠ b) : eqS a b = false := by
  cases e : eqS a b with
  | false => rfl
  | true => exact absurd ((eqS_iff a b).1 e) h
theorem ru2_any (s : ByteArray) (k : Nat) (z : Int) (w : World) (hz : z = (k : Int)) (h : k + 2 ≤ s.size) (hm : s.size ≤ 1073741824) :
    Calls Try.prog 22 #[.string s, .int .i64 z] w fun e w' => e = .returned (.int .i64 ((n2 s.data.toList k : Nat) : Int)) ∧ ∃ n, w' = w.drewN n := by
  subst hz
  have h0 : (k : Int) < (s.size : Int) := by omega
  have h1 : (k : Int) + 1 < (s.size : Int) := by omega
  have h3 : (s.size : Int) ≤ 1073741824 := by omega
  have h00 : (0 : Int) ≤ (k : Int) := by omega
  have c1 : ¬ (k : Int) < 0 := by omega
  have c2 : ¬ (s.size : Int) - 2 < (k : Int) := by omega
  have a0 := s[k].toNat_lt
  have a1 := s[k + 1].toNat_lt
  have b0 : (s[k].toNat : Int) ≤ 255 := by omega
  have b1 : (s[k + 1].toNat : Int) ≤ 255 := by omega
  have ho := or_bytes (s[k].toNat : Int) (s[k + 1].toNat : Int) (by omega) (by omega) (by omega) (by omega)
  have HU := hide (show (s[k].toNat : Int) * 256 + (s[k + 1].toNat : Int) = ((n2 s.data.toList k : Nat) : Int) by
    unfold n2
    rw [bt_at s k (by omega), bt_at s (k + 1) (by omega)]
    omega)
  have k0 : IntKind.i64.wrap (s[k].toNat : Int) = (s[k].toNat : Int) := by rw [IntKind.wrap_i64]; omega
  have k1 : IntKind.i64.wrap (s[k + 1].toNat : Int) = (s[k + 1].toNat : Int) := by rw [IntKind.wrap_i64]; omega
  have k2 : IntKind.i64.wrap ((s[k].toNat : Int) * 256) = (s[k].toNat : Int) * 256 := by rw [IntKind.wrap_i64]; omega
  have k3 : ((k : Int) + 1).toNat = k + 1 := by omega
  have k4 : IntKind.i64.wrap ((k : Int) + 1) = (k : Int) + 1 := by rw [IntKind.wrap_i64]; omega
  have h10 : (0 : Int) ≤ (k : Int) + 1 := by omega
  have hu := HU.out
  rw [hu] at ho
  clear a0 a1 hu
  go_enter Try.func22, Try.ntmps22
  go_wp2_with fail
  rename_i q0
  have HA := hide q0
  clear q0
  go_region_held3 (fun _ => True) (first | trivial | go_keep) ((fail))
  all_goals
    refine HA.out _ _ ?_
    go_wp2
    go_ret
    exact ⟨rfl, 1, rfl⟩
end Go.Proofs.Ytkmmphpaaahajaa
