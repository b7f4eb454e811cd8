/-
  Joined: S8Sum.
-/
import Derived.Laws.BitsLemmas
import Derived.Lib.Strings
import Derived.Outline
import Derived.Test.YtpdfpbbamnhkfaaGreatDoorProg
import Derived.WalkKit
import Derived.Test.YtpdfpbbamnhkfaaGreatDoorV03
namespace Go.Proofs.YtpdfpbbamnhkfaaGreatDoor.S8
open Go.RowKit
theorem take_snoc8 (s : ByteArray) (k : Nat) (h : k < s.size) : s.data.toList.take (k + 1) = s.data.toList.take k ++ [s[k]] := by
  rw [List.take_succ_eq_append_getElem (by simpa using h)]; rfl
theorem sum_step8 (s : ByteArray) (k r : Nat) (h : k < s.size) (hr : k % 4 = r) : sumA (s.data.toList.take (k + 1)) 0 = sumA (s.data.toList.take k) 0 + s[k].toNat * 2 ^ (24 - 8 * r) := by
  rw [take_snoc8 s k h, sumA_snoc, List.length_take, Nat.min_eq_left (by rw [← Lib.size_eq]; omega), hr]
set_option maxHeartbeats 1000000 in
theorem sum_any (s : ByteArray) (w : World) (hs : s.size ≤ 140737488355328) :
    Calls Tryz.prog 146 #[.string s] w fun e w' => e = .returned (.int .i64 ((sumV s.data.toList : Nat) : Int)) ∧ w' = w := by
  have hs' : (s.size : Int) ≤ 140737488355328 := by omega
  go_enter Tryz.func146, Tryz.ntmps146
  go_wp2_with fail
  go_loop [3, 7] (fun vs vi => ∃ (k S : Nat), vi = .int .i64 k ∧ vs = .int .u32 S ∧ Hid (k ≤ s.size ∧ S = sumA (s.data.toList.take k) 0 % 4294967296)) (fun _ vi => s.size - (intOf vi).toNat)
  case atStart => exact ⟨0, 0, rfl, rfl, hide ⟨by omega, by simp [sumA]⟩⟩
  case round =>
    obtain ⟨k, S, rfl, rfl, HV⟩ := hrel
    obtain ⟨hk, hS⟩ := HV.out
    have hk0 : (0 : Int) ≤ (k : Int) := by omega
    have hS0 : (0 : Int) ≤ (S : Int) := by omega
    have hS1 : (S : Int) ≤ 4294967295 := by omega
    have HK := hide hk
    have HS := hide hS
    clear HV hS
    by_cases hlt : k < s.size
    case neg =>
      have hlt' : ¬ (k : Int) < (s.size : Int) := by omega
      have e : S = sumV s.data.toList := by
        unfold sumV
        rw [HS.out, List.take_of_length_le (by rw [← Lib.size_eq]; omega)]
      subst e
      clear hlt HS
      go_wp2_with fail
      go_ret
      exact ⟨rfl, rfl⟩
    have hlt' : (k : Int) < (s.size : Int) := by omega
    have hc := s[k].toNat_lt
    have hr : k % 4 = 0 ∨ k % 4 = 1 ∨ k % 4 = 2 ∨ k % 4 = 3 := by omega
    rcases hr with hr | hr | hr | hr
    all_goals
      have st := sum_step8 s k _ hlt hr
      have HST := hide st
      have hm : (k : Int) % 4 = ((k % 4 : Nat) : Int) := by omega
      rw [hr] at hm
      clear st hr
      go_wp2_with fail
      go_round
      case rel =>
        refine ⟨k + 1, sumA (s.data.toList.take (k + 1)) 0 % 4294967296, by go_num, ?_, hide ⟨hlt, rfl⟩⟩
        have h1 := HS.out
        have h2 := HST.out
        rw [h2]
        congr 1
        omega
      case measure => simp [intOf]; omega
theorem wraps_i64 (n : Int) (h₀ : 0 ≤ n) (h₁ : n < 2 ^ 63) : IntKind.i64.wrap n = n := by rw [IntKind.wrap_i64]; omega
end Go.Proofs.YtpdfpbbamnhkfaaGreatDoor.S8
