/-
  What colophonkeep's Same answers of a list and its like: true.
-/
import Derived.Test.YtncmkiejamkklabDoorU4Keep
import Derived.RegionTactic
import Derived.ChangeAlike
import Derived.Deep.QuietTactic
import Derived.BigQuiet
namespace Go.Proofs.YtncmkiejamkklabDoor
open Go.RowKit

theorem same_any (a b : Option Addr) (len ca cb : Nat) (zs : List Int) (w : World) (hl : zs.length = len) (h4 : len ≤ 1048576) (hA : Lst w a zs) (hB : Lst w b zs) :
    Calls Tryd.prog 12 #[.slice a len ca, .slice b len cb] w fun e w' => e = .returned (.bool true) ∧ ∃ n, w' = w.drewN n := by
  have HA := hide hA
  have HB := hide hB
  have Hl := hide hl
  have h5 : (len : Int) ≤ 1048576 := by omega
  have t0 : ((len : Int) != (len : Int)) = false := by simp
  clear hA hB hl
  go_enter Tryd.func12, Tryd.ntmps12
  go_wp2_with fail
  go_loopw [5] (fun vi wr => ∃ (k n : Nat), vi = .int .i64 k ∧ wr = w.drewN n ∧ Hid (k ≤ len)) (fun vi _ => len - (intOf vi).toNat)
  case atStart => exact ⟨0, 0, rfl, rfl, hide (by omega)⟩
  case round =>
    obtain ⟨k, n, rfl, rfl, HK⟩ := hrel
    by_cases hlt : k < len
    · have hlt' : (k : Int) < (len : Int) := by omega
      have hl := Hl.out
      rcases HA.out with hz | ⟨b1, o1, rfl, hb1, hcell1⟩
      · rw [hz] at hl; simp at hl; omega
      rcases HB.out with hz | ⟨b2, o2, rfl, hb2, hcell2⟩
      · rw [hz] at hl; simp at hl; omega
      have hc1 := hcell1 k (by omega)
      have hc2 := hcell2 k (by omega)
      generalize zs.getD k 0 = z at *
      clear hcell1 hcell2 hl
      go_wp2_with fail
      go_quiet (fail)
      go_wp2
      go_roundw
      case rel => exact ⟨k + 1, _, by go_num, rfl, hide (by omega)⟩
      case measure => simp [intOf]; omega
    · have hlt' : ¬ (k : Int) < (len : Int) := by omega
      go_wp2
      go_ret
      exact ⟨rfl, n, rfl⟩
end Go.Proofs.YtncmkiejamkklabDoor
