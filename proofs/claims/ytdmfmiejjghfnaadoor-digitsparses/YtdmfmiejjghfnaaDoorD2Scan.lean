/-
  What the reference's digits (chapter 2) answers: how many digits stand from a place on.
-/
import Derived.Test.YtdmfmiejjghfnaaDoorProg
import Derived.Test.YtdmfmiejjghfnaaDoorHide
import Derived.WalkKit
import Derived.Outline
namespace Go.Proofs.YtdmfmiejjghfnaaDoor
open Go.RowKit

def isDig (c : UInt8) : Bool := decide (48 ≤ c.toNat ∧ c.toNat ≤ 57)
/- how many digits a list opens with -/
def dgc : List UInt8 → Nat
  | [] => 0
  | c :: l => if isDig c then 1 + dgc l else 0
theorem dgc_le (l : List UInt8) : dgc l ≤ l.length := by
  induction l with
  | nil => simp [dgc]
  | cons c l ih => unfold dgc; split <;> simp <;> omega
theorem drop_at (s : ByteArray) (k : Nat) (h : k < s.size) : s.data.toList.drop k = s[k] :: s.data.toList.drop (k + 1) := by
  rw [List.drop_eq_getElem_cons (by simpa using h)]
  rfl
theorem size_list (s : ByteArray) : s.data.toList.length = s.size := by simp

theorem rdigits_any (s : ByteArray) (at_ : Nat) (w : World) (hs : s.size ≤ 9223372036854775807) (ha : at_ ≤ s.size) :
    Calls Tryd.prog 39 #[.string s, .int .i64 at_] w fun e w' => e = .returned (.int .i64 (dgc (s.data.toList.drop at_))) ∧ w' = w := by
  obtain ⟨R, hR⟩ : ∃ R, dgc (s.data.toList.drop at_) = R := ⟨_, rfl⟩
  have hRle : at_ + R ≤ s.size := by
    have := dgc_le (s.data.toList.drop at_)
    rw [List.length_drop, size_list, hR] at this
    omega
  rw [hR]
  have HR := hide hR
  clear hR
  go_enter Tryd.func39, Tryd.ntmps39
  go_wp2_with fail
  go_loop [5] (fun vn => ∃ k : Nat, vn = .int .i64 k ∧ Hid (k ≤ R ∧ k + dgc (s.data.toList.drop (at_ + k)) = R)) (fun vn => s.size - (intOf vn).toNat)
  case atStart => exact ⟨0, rfl, hide ⟨by omega, by rw [Nat.zero_add]; exact HR.out⟩⟩
  case round =>
    obtain ⟨k, rfl, HK⟩ := hrel
    obtain ⟨k1, k2⟩ := HK.out
    clear HK
    have kb : (at_ : Int) + (k : Int) ≤ (s.size : Int) := by omega
    by_cases hlt : at_ + k < s.size
    · have hlt' : decide ((at_ : Int) + (k : Int) < (s.size : Int)) = true := by simp; omega
      have hlt2 : (at_ : Int) + (k : Int) < (s.size : Int) := by omega
      rw [drop_at s (at_ + k) hlt] at k2
      unfold dgc at k2
      have K := hide k2
      clear k2
      go_wp2
      · have hd : isDig s[at_ + k] = true := by unfold isDig; simp; omega
        have k2 := K.out
        rw [hd, if_pos rfl] at k2
        go_round
        case rel => exact ⟨k + 1, by go_num, hide ⟨by omega, by rw [show at_ + (k + 1) = at_ + k + 1 by omega]; omega⟩⟩
        case measure => simp [intOf]; omega
      all_goals
        have hd : isDig s[at_ + k] = false := by unfold isDig; simp; omega
        have k2 := K.out
        rw [hd, if_neg (by simp), Nat.add_zero] at k2
        subst k2
        go_ret
        exact ⟨rfl, rfl⟩
    · have hlt' : decide ((at_ : Int) + (k : Int) < (s.size : Int)) = false := by simp; omega
      rw [List.drop_eq_nil_of_le (by rw [size_list]; omega)] at k2
      obtain rfl : k = R := by simpa [dgc] using k2
      clear k2
      go_wp2
      go_ret
      exact ⟨rfl, rfl⟩
end Go.Proofs.YtdmfmiejjghfnaaDoor
