/-
  What isControl, isSmall, ofName, isName, numbered, entity of marks answer.
-/
import Derived.Test.YtpmdekhjodhdmaaDoorK17P
import Derived.Test.YtpmdekhjodhdmaaDoorU4Cls
import Derived.Test.YtpmdekhjodhdmaaDoorLst
import Derived.Lib.Strings
import Derived.Laws.IdiomStrings
namespace Go.Proofs.YtpmdekhjodhdmaaDoor.K17
open Go.RowKit Go.Proofs.YtpmdekhjodhdmaaDoor
open Go.Lib
set_option linter.unusedVariables false
set_option linter.unusedSimpArgs false
set_option maxRecDepth 8000

theorem ctl_cls (c : Nat) (h : c ≤ 1114111) : (clsV (c : Int) == 4) = ctl c := by
  unfold clsV ctl blkB letB win
  cases hp : isP (c : Int)
  · rw [if_pos rfl]
    have := isP_f.1 hp
    have h2 : 55296 ≤ c := by omega
    rw [decide_eq_false (by omega)]; rfl
  · rw [if_neg (by simp)]
    by_cases h1 : c = 9 ∨ c = 10 ∨ c = 13 ∨ c = 32
    · rw [if_pos (by simp; omega), decide_eq_false (by omega)]; rfl
    · rw [if_neg (by simp; omega)]
      by_cases h2 : (65 ≤ (c : Int) ∧ (c : Int) ≤ 90) ∨ (97 ≤ (c : Int) ∧ (c : Int) ≤ 122) ∨ (192 ≤ (c : Int) ∧ (c : Int) ≤ 255 ∧ (c : Int) ≠ 215 ∧ (c : Int) ≠ 247)
      · rw [if_pos (decide_eq_true h2), decide_eq_false (by omega)]; rfl
      · rw [if_neg (by rw [decide_eq_false h2]; simp)]
        by_cases h3 : 48 ≤ (c : Int) ∧ (c : Int) ≤ 57
        · rw [if_pos (decide_eq_true h3), decide_eq_false (by omega)]; rfl
        · rw [if_neg (by rw [decide_eq_false h3]; simp)]
          by_cases h4 : (c : Int) < 32 ∨ (127 ≤ (c : Int) ∧ (c : Int) ≤ 159)
          · rw [if_pos (by simpa using h4), decide_eq_true (by omega)]; rfl
          · rw [if_neg (by simpa using h4), decide_eq_false (by omega)]; rfl
theorem ctl_any (c : Nat) (w : World) (h : c ≤ 1114111) : Calls Tryd.prog 53 #[.int .i32 (c : Int)] w fun e w' => e = .returned (.bool (ctl c)) ∧ w' = w := by
  have CC := hide (fun w => class_any (c : Int) w)
  rw [← ctl_cls c h]
  have h1 : (c : Int) ≤ 1114111 := by omega
  generalize clsV (c : Int) = V at CC ⊢
  go_enter Tryd.func53, Tryd.ntmps53
  go_wp2_with (go_at_call 70; refine (CC.out _).mono ?_; rintro e w' ⟨rfl, rfl⟩)
  go_ret
  exact ⟨rfl, rfl⟩
def smN (b : Nat) : Bool := decide (97 ≤ b ∧ b ≤ 122)
def nmN (b : Nat) : Bool := smN b || (decide (48 ≤ b ∧ b ≤ 57) || b == 45)
theorem small_any (b : Nat) (w : World) : Calls Tryd.prog 79 #[.int .u8 (b : Int)] w fun e w' => e = .returned (.bool (smN b)) ∧ w' = w := by
  by_cases h1 : (97 : Int) ≤ (b : Int)
  · by_cases h2 : (b : Int) ≤ 122
    · rw [show smN b = true from decide_eq_true (by omega)]
      go_enter Tryd.func79, Tryd.ntmps79
      go_wp2
      go_ret
      exact ⟨rfl, rfl⟩
    · rw [show smN b = false from decide_eq_false (by omega)]
      go_enter Tryd.func79, Tryd.ntmps79
      go_wp2
      go_ret
      exact ⟨rfl, rfl⟩
  · rw [show smN b = false from decide_eq_false (by omega)]
    go_enter Tryd.func79, Tryd.ntmps79
    go_wp2
    go_ret
    exact ⟨rfl, rfl⟩
theorem ofname_any (b : Nat) (w : World) : Calls Tryd.prog 80 #[.int .u8 (b : Int)] w fun e w' => e = .returned (.bool (nmN b)) ∧ w' = w := by
  have CS := hide (fun w => small_any b w)
  unfold nmN
  cases h0 : smN b
  · rw [h0] at CS
    by_cases h1 : (48 : Int) ≤ (b : Int)
    · by_cases h2 : (b : Int) ≤ 57
      · rw [decide_eq_true (show 48 ≤ b ∧ b ≤ 57 by omega)]
        have h2' : decide ((b : Int) ≤ 57) = true := decide_eq_true h2
        clear h0
        go_enter Tryd.func80, Tryd.ntmps80
        go_wp2_with (go_at_call 79; refine (CS.out _).mono ?_; rintro e w1 ⟨rfl, rfl⟩)
        go_ret
        exact ⟨rfl, rfl⟩
      · rw [decide_eq_false (show ¬ (48 ≤ b ∧ b ≤ 57) by omega)]
        have h3 : (b == 45) = false := by rw [beq_eq_false_iff_ne]; omega
        have h4 : ((b : Int) == 45) = false := by rw [beq_eq_false_iff_ne]; omega
        have h2' : decide ((b : Int) ≤ 57) = false := decide_eq_false h2
        rw [h3]
        clear h0
        go_enter Tryd.func80, Tryd.ntmps80
        go_wp2_with (go_at_call 79; refine (CS.out _).mono ?_; rintro e w1 ⟨rfl, rfl⟩)
        go_ret
        exact ⟨by simp only [h2', h4]; rfl, rfl⟩
    · rw [decide_eq_false (show ¬ (48 ≤ b ∧ b ≤ 57) by omega)]
      by_cases h3 : b = 45
      · subst h3
        clear h0 h1
        go_enter Tryd.func80, Tryd.ntmps80
        go_wp2_with (go_at_call 79; refine (CS.out _).mono ?_; rintro e w1 ⟨rfl, rfl⟩)
        go_ret
        exact ⟨rfl, rfl⟩
      · have h4 : ((b : Int) == 45) = false := by rw [beq_eq_false_iff_ne]; omega
        have h5 : (b == 45) = false := by rw [beq_eq_false_iff_ne]; omega
        rw [h5]
        clear h0
        go_enter Tryd.func80, Tryd.ntmps80
        go_wp2_with (go_at_call 79; refine (CS.out _).mono ?_; rintro e w1 ⟨rfl, rfl⟩)
        go_ret
        exact ⟨rfl, rfl⟩
  · rw [h0] at CS
    clear h0
    go_enter Tryd.func80, Tryd.ntmps80
    go_wp2_with (go_at_call 79; refine (CS.out _).mono ?_; rintro e w1 ⟨rfl, rfl⟩)
    go_ret
    exact ⟨rfl, rfl⟩
def nmB (b : UInt8) : Bool := nmN b.toNat
/- is it a name? -/
def isN (l : List UInt8) : Bool := !l.isEmpty && (decide (l.length ≤ 16) && (smN (l.getD 0 0).toNat && l.all nmB))
theorem get_b (s : ByteArray) (k : Nat) (h : k < s.size) : s.data.toList[k]? = some s[k] := by
  rw [List.getElem?_eq_getElem (by simpa using h)]; rfl
theorem take_b (s : ByteArray) (k : Nat) (h : k < s.size) : s.data.toList.take (k + 1) = s.data.toList.take k ++ [s[k]] := by
  rw [List.take_add_one, get_b s k h]; rfl
theorem get0 (s : ByteArray) (h : 0 < s.size) : s.data.toList.getD 0 0 = s[0] := by
  rw [List.getD_eq_getElem?_getD, get_b s 0 h]; rfl
theorem size_l (s : ByteArray) : s.data.toList.length = s.size := (Lib.size_eq s).symm
theorem emp_l {s : ByteArray} (h : s.size = 0) : s = ⟨#[]⟩ := by
  cases s with | mk d =>
    have : d.size = 0 := h
    rw [Array.eq_empty_of_size_eq_zero this]
theorem str_eq {s t : ByteArray} : s = t ↔ s.data.toList = t.data.toList := by
  constructor
  · rintro rfl; rfl
  · intro h
    cases s with | mk a => cases t with | mk b => cases a; cases b; simp at h; simp [h]
theorem isname_any (s : ByteArray) (w : World) (hs : s.size ≤ 9223372036854775000) : Calls Tryd.prog 66 #[.string s] w fun e w' => e = .returned (.bool (isN s.data.toList)) ∧ w' = w := by
  have CS := hide small_any
  have CN := hide ofname_any
  have hs' : (s.size : Int) ≤ 9223372036854775000 := by omega
  obtain ⟨R, hR⟩ : ∃ R, isN s.data.toList = R := ⟨_, rfl⟩
  rw [hR]
  unfold isN at hR
  rw [size_l] at hR
  by_cases h0 : s.size = 0
  · obtain rfl := emp_l h0
    subst hR
    clear h0 hs'
    go_enter Tryd.func66, Tryd.ntmps66
    go_wp2
    go_ret
    exact ⟨rfl, rfl⟩
  have hpos : 0 < s.size := by omega
  have hne : (s.toList == []) = false := by
    rw [beq_eq_false_iff_ne, ByteArray.toList_eq]; intro h; have := size_l s; rw [h] at this; simp at this; omega
  rw [get0 s hpos, show s.data.toList.isEmpty = false by rw [List.isEmpty_eq_false_iff]; intro h; have := size_l s; rw [h] at this; simp at this; omega] at hR
  have hpos' : (0 : Int) < (s.size : Int) := by omega
  by_cases h1 : s.size ≤ 16
  · have h1' : ¬ (16 : Int) < (s.size : Int) := by omega
    rw [decide_eq_true h1] at hR
    cases h2 : smN s[0].toNat
    · rw [h2] at hR
      obtain rfl : R = false := by rw [← hR]; rfl
      have C0 := hide (show ∀ w, _ from fun w => CS.out s[0].toNat w)
      rw [h2] at C0
      clear h2 hR CS h0 h1
      go_enter Tryd.func66, Tryd.ntmps66
      go_wp2_with (go_at_call 79; refine (C0.out _).mono ?_; rintro e w1 ⟨rfl, rfl⟩)
      go_ret
      exact ⟨rfl, rfl⟩
    · rw [h2] at hR
      have HR := hide (show s.data.toList.all nmB = R by simpa using hR)
      have C0 := hide (show ∀ w, _ from fun w => CS.out s[0].toNat w)
      rw [h2] at C0
      clear h2 hR CS h0 h1
      go_enter Tryd.func66, Tryd.ntmps66
      go_wp2_with (go_at_call 79; refine (C0.out _).mono ?_; rintro e w1 ⟨rfl, rfl⟩)
      go_loop [3, 19] (fun _ vn => ∃ k : Nat, vn = .int .i64 k ∧ Hid (k ≤ s.size ∧ (s.data.toList.take k).all nmB = true)) (fun _ vn => s.size - (intOf vn).toNat)
      case atStart => exact ⟨0, rfl, hide ⟨by omega, by simp⟩⟩
      case round =>
        obtain ⟨k, rfl, HK⟩ := hrel
        obtain ⟨k1, k2⟩ := HK.out
        clear HK
        by_cases hlt : k < s.size
        · have hlt' : (k : Int) < (s.size : Int) := by omega
          have C1 := hide (show ∀ w, _ from fun w => CN.out s[k].toNat w)
          cases hd : nmN s[k].toNat
          · obtain rfl : R = false := by
              rw [← HR.out, List.all_eq_false]
              exact ⟨s[k], List.mem_iff_getElem?.2 ⟨k, get_b s k hlt⟩, by unfold nmB; rw [hd]; simp⟩
            rw [hd] at C1
            clear hd k2 CN
            go_wp2_with (go_at_call 80; refine (C1.out _).mono ?_; rintro e w1 ⟨rfl, rfl⟩)
            go_ret
            exact ⟨rfl, rfl⟩
          · have K := hide (show (s.data.toList.take (k + 1)).all nmB = true by rw [take_b s k hlt, List.all_append, k2]; simp [nmB, hd])
            rw [hd] at C1
            clear hd k2 CN
            go_wp2_with (go_at_call 80; refine (C1.out _).mono ?_; rintro e w1 ⟨rfl, rfl⟩)
            go_round
            case rel => exact ⟨k + 1, by go_num, hide ⟨by omega, K.out⟩⟩
            case measure => simp [intOf]; omega
        · have hlt' : ¬ (k : Int) < (s.size : Int) := by omega
          rw [List.take_of_length_le (by rw [size_l]; omega)] at k2
          obtain rfl : R = true := by rw [← HR.out, k2]
          clear k2
          go_wp2
          go_ret
          exact ⟨rfl, rfl⟩
  · have h1' : (16 : Int) < (s.size : Int) := by omega
    rw [decide_eq_false h1] at hR
    obtain rfl : R = false := by rw [← hR]; simp
    clear hR h0 h1
    go_enter Tryd.func66, Tryd.ntmps66
    go_wp2
    go_ret
    exact ⟨rfl, rfl⟩
end Go.Proofs.YtpmdekhjodhdmaaDoor.K17
