/-
  What the reference's word, name and Integer (chapter 5) answer.
-/
import Derived.Test.YtcgoklacjniemaaGreatDoorO5Ch
namespace Go.Proofs.YtcgoklacjniemaaGreatDoor
open Go.RowKit

theorem word_any (s : ByteArray) (at_ : Nat) (w : World) (hs : s.size ≤ 16777216) (ha : at_ ≤ s.size) :
    Calls Tryz.prog 91 #[.string s, .int .i64 at_] w fun e w' => e = .returned (.int .i64 (wordV s.data.toList at_)) ∧ w' = w := by
  obtain ⟨R, hR⟩ : ∃ R, wordV s.data.toList at_ = R := ⟨_, rfl⟩
  rw [hR]
  have HR := hide hR
  have hs' : (s.size : Int) ≤ 16777216 := by omega
  clear hR hs
  go_enter Tryz.func91, Tryz.ntmps91
  go_wp2_with fail
  go_loop [1] (fun vn => ∃ k : Nat, vn = .int .i64 k ∧ Hid (k ≤ s.size ∧ wordV s.data.toList k = R)) (fun vn => s.size - (intOf vn).toNat)
  case atStart => exact ⟨at_, rfl, hide ⟨ha, HR.out⟩⟩
  case round =>
    obtain ⟨k, rfl, HK⟩ := hrel
    obtain ⟨k1, k2⟩ := HK.out
    clear HK
    by_cases hlt : k < s.size
    · have hlt' : (k : Int) < (s.size : Int) := by omega
      have hst : wordV s.data.toList k = if isEnd s[k].toNat then k else wordV s.data.toList (k + 1) := by
        unfold wordV
        rw [drop_at s k hlt, run]
        cases isEnd s[k].toNat <;> simp <;> omega
      have CB := hide (fun w => blank_any s[k].toNat w s[k].toNat_lt)
      have CD := hide (fun w => delim_any s[k].toNat w s[k].toNat_lt)
      unfold isEnd at hst
      cases hb : isBl s[k].toNat
      · cases hd : isDl s[k].toNat
        · rw [hb, hd, if_neg (by simp), k2] at hst
          have K := hide hst.symm
          rw [hb] at CB
          rw [hd] at CD
          clear k2 hb hd hst
          go_wp2_with (first | (go_at_call 64; refine (CB.out _).mono ?_; rintro e w1 ⟨rfl, rfl⟩) | (go_at_call 77; refine (CD.out _).mono ?_; rintro e w1 ⟨rfl, rfl⟩))
          go_round
          case rel => exact ⟨k + 1, by go_num, hide ⟨by omega, K.out⟩⟩
          case measure => simp [intOf]; omega
        · rw [hb, hd, if_pos (by simp), k2] at hst
          subst hst
          rw [hb] at CB
          rw [hd] at CD
          clear k2 hb hd
          go_wp2_with (first | (go_at_call 64; refine (CB.out _).mono ?_; rintro e w1 ⟨rfl, rfl⟩) | (go_at_call 77; refine (CD.out _).mono ?_; rintro e w1 ⟨rfl, rfl⟩))
          go_ret
          exact ⟨rfl, rfl⟩
      · rw [hb, if_pos (by simp), k2] at hst
        subst hst
        rw [hb] at CB
        clear k2 hb CD
        go_wp2_with (go_at_call 64; refine (CB.out _).mono ?_; rintro e w1 ⟨rfl, rfl⟩)
        go_ret
        exact ⟨rfl, rfl⟩
    · have hlt' : decide ((k : Int) < (s.size : Int)) = false := by simp; omega
      have hst : wordV s.data.toList k = k := by
        unfold wordV
        rw [List.drop_eq_nil_of_le (by rw [← Lib.size_eq]; omega)]
        rfl
      rw [k2] at hst
      subst hst
      clear k2
      go_wp2
      go_ret
      exact ⟨rfl, rfl⟩

/- may bytes be a name's? -/
def nameB (l : List UInt8) : Bool := decide (1 ≤ l.length ∧ l.length ≤ 127) && l.all fun c => c.toNat != 0
theorem get_at (s : ByteArray) (k : Nat) (h : k < s.size) : s.data.toList[k]? = some s[k] := by
  rw [List.getElem?_eq_getElem (by simpa using h)]
  rfl
theorem take_at (s : ByteArray) (k : Nat) (h : k < s.size) : s.data.toList.take (k + 1) = s.data.toList.take k ++ [s[k]] := by
  rw [List.take_add_one, get_at s k h]
  rfl
theorem rname_any (s : ByteArray) (w : World) (hs : s.size ≤ 9223372036854775807) :
    Calls Tryz.prog 89 #[.string s] w fun e w' => e = .returned (.bool (nameB s.data.toList)) ∧ w' = w := by
  obtain ⟨R, hR⟩ : ∃ R, nameB s.data.toList = R := ⟨_, rfl⟩
  rw [hR]
  have HR := hide hR
  have hs' : (s.size : Int) ≤ 9223372036854775807 := by omega
  clear hR hs
  by_cases h1 : s.size < 1
  · have h1' : (s.size : Int) < 1 := by omega
    obtain rfl : R = false := by rw [← HR.out]; unfold nameB; rw [decide_eq_false (by rw [← Lib.size_eq]; omega)]; rfl
    clear HR h1
    go_enter Tryz.func89, Tryz.ntmps89
    go_wp2
    go_ret
    exact ⟨rfl, rfl⟩
  have h1' : decide ((s.size : Int) < 1) = false := by simp; omega
  by_cases h2 : 127 < s.size
  · have h2' : (127 : Int) < (s.size : Int) := by omega
    obtain rfl : R = false := by rw [← HR.out]; unfold nameB; rw [decide_eq_false (by rw [← Lib.size_eq]; omega)]; rfl
    clear HR h1 h2
    go_enter Tryz.func89, Tryz.ntmps89
    go_wp2
    go_ret
    exact ⟨rfl, rfl⟩
  have h2' : decide ((127 : Int) < (s.size : Int)) = false := by simp; omega
  have HN := hide (show nameB s.data.toList = (s.data.toList.all fun c => c.toNat != 0) by unfold nameB; rw [decide_eq_true (by rw [← Lib.size_eq]; omega)]; rfl)
  clear h1 h2
  go_enter Tryz.func89, Tryz.ntmps89
  go_wp2_with fail
  go_loop [3] (fun vn => ∃ k : Nat, vn = .int .i64 k ∧ Hid (k ≤ s.size ∧ ((s.data.toList.take k).all fun c => c.toNat != 0) = true)) (fun vn => s.size - (intOf vn).toNat)
  case atStart => exact ⟨0, rfl, hide ⟨by omega, by simp⟩⟩
  case round =>
    obtain ⟨k, rfl, HK⟩ := hrel
    obtain ⟨k1, k2⟩ := HK.out
    clear HK
    by_cases hlt : k < s.size
    · have hlt' : (k : Int) < (s.size : Int) := by omega
      have K := hide k2
      by_cases hz : s[k].toNat = 0
      · have hz' : ((s[k].toNat : Int) == 0) = true := by rw [beq_iff_eq]; omega
        obtain rfl : R = false := by
          rw [← HR.out, HN.out, List.all_eq_false]
          exact ⟨s[k], List.mem_iff_getElem?.2 ⟨k, get_at s k hlt⟩, by simp [hz]⟩
        clear k2 hz HR
        go_wp2
        go_ret
        exact ⟨rfl, rfl⟩
      · have hz' : ((s[k].toNat : Int) == 0) = false := by rw [beq_eq_false_iff_ne]; omega
        have HZ := hide hz
        clear k2 hz
        go_wp2
        go_round
        case rel => exact ⟨k + 1, by go_num, hide ⟨by omega, by rw [take_at s k hlt, List.all_append, K.out]; simpa using HZ.out⟩⟩
        case measure => simp [intOf]; omega
    · have hlt' : ¬ (k : Int) < (s.size : Int) := by omega
      obtain rfl : R = true := by
        rw [← HR.out, HN.out]
        rwa [List.take_of_length_le (by rw [← Lib.size_eq]; omega)] at k2
      clear k2 HR
      go_wp2
      go_ret
      exact ⟨rfl, rfl⟩
end Go.Proofs.YtcgoklacjniemaaGreatDoor
