/-
  What the reference's small functions of bytes (chapter 5) answer: Blank, delim, hex, name, Blanks, word.
-/
import Derived.Test.YtcgoklacjniemaaGreatDoorProg
import Derived.Test.YtcgoklacjniemaaGreatDoorHide
import Derived.Lib.Strings
import Derived.WalkKit
import Derived.Outline
namespace Go.Proofs.YtcgoklacjniemaaGreatDoor
open Go.RowKit

def isBl (b : Nat) : Bool := decide (b = 9 ∨ b = 10 ∨ b = 12 ∨ b = 13 ∨ b = 32)
def isDl (b : Nat) : Bool := decide (b = 40 ∨ b = 41 ∨ b = 60 ∨ b = 62 ∨ b = 91 ∨ b = 93 ∨ b = 123 ∨ b = 125 ∨ b = 47 ∨ b = 37)
def isEnd (b : Nat) : Bool := isBl b || isDl b
theorem blank_any (b : Nat) (w : World) (h : b < 256) :
    Calls Tryz.prog 64 #[.int .u8 b] w fun e w' => e = .returned (.bool (isBl b)) ∧ w' = w := by
  by_cases hin : b = 9 ∨ b = 10 ∨ b = 12 ∨ b = 13 ∨ b = 32
  · have e : isBl b = true := decide_eq_true hin
    rw [e]
    rcases hin with rfl | rfl | rfl | rfl | rfl
    all_goals
      clear h e
      go_enter Tryz.func64, Tryz.ntmps64
      go_wp2
      go_ret
      exact ⟨rfl, rfl⟩
  · have e : isBl b = false := decide_eq_false hin
    rw [e]
    have n9 : ((b : Int) == 9) = false := by rw [beq_eq_false_iff_ne]; omega
    have n10 : ((b : Int) == 10) = false := by rw [beq_eq_false_iff_ne]; omega
    have n12 : ((b : Int) == 12) = false := by rw [beq_eq_false_iff_ne]; omega
    have n13 : ((b : Int) == 13) = false := by rw [beq_eq_false_iff_ne]; omega
    have n32 : ((b : Int) == 32) = false := by rw [beq_eq_false_iff_ne]; omega
    clear hin e
    go_enter Tryz.func64, Tryz.ntmps64
    go_wp2
    go_ret
    exact ⟨rfl, rfl⟩
theorem delim_any (b : Nat) (w : World) (h : b < 256) :
    Calls Tryz.prog 77 #[.int .u8 b] w fun e w' => e = .returned (.bool (isDl b)) ∧ w' = w := by
  by_cases hin : b = 40 ∨ b = 41 ∨ b = 60 ∨ b = 62 ∨ b = 91 ∨ b = 93 ∨ b = 123 ∨ b = 125 ∨ b = 47 ∨ b = 37
  · have e : isDl b = true := decide_eq_true hin
    rw [e]
    rcases hin with rfl | rfl | rfl | rfl | rfl | rfl | rfl | rfl | rfl | rfl
    all_goals
      clear h e
      go_enter Tryz.func77, Tryz.ntmps77
      go_wp2
      go_ret
      exact ⟨rfl, rfl⟩
  · have e : isDl b = false := decide_eq_false hin
    rw [e]
    have n40 : ((b : Int) == 40) = false := by rw [beq_eq_false_iff_ne]; omega
    have n41 : ((b : Int) == 41) = false := by rw [beq_eq_false_iff_ne]; omega
    have n60 : ((b : Int) == 60) = false := by rw [beq_eq_false_iff_ne]; omega
    have n62 : ((b : Int) == 62) = false := by rw [beq_eq_false_iff_ne]; omega
    have n91 : ((b : Int) == 91) = false := by rw [beq_eq_false_iff_ne]; omega
    have n93 : ((b : Int) == 93) = false := by rw [beq_eq_false_iff_ne]; omega
    have n123 : ((b : Int) == 123) = false := by rw [beq_eq_false_iff_ne]; omega
    have n125 : ((b : Int) == 125) = false := by rw [beq_eq_false_iff_ne]; omega
    have n47 : ((b : Int) == 47) = false := by rw [beq_eq_false_iff_ne]; omega
    have n37 : ((b : Int) == 37) = false := by rw [beq_eq_false_iff_ne]; omega
    clear hin e
    go_enter Tryz.func77, Tryz.ntmps77
    go_wp2
    go_ret
    exact ⟨rfl, rfl⟩
def hexV (b : Nat) : Int := if 48 ≤ b ∧ b ≤ 57 then (b : Int) - 48 else if 65 ≤ b ∧ b ≤ 70 then (b : Int) - 55 else if 97 ≤ b ∧ b ≤ 102 then (b : Int) - 87 else -1
theorem hexV_bd (b : Nat) : -1 ≤ hexV b ∧ hexV b ≤ 15 := by
  unfold hexV
  repeat' split
  all_goals omega
theorem hex_any (b : Nat) (w : World) (h : b < 256) :
    Calls Tryz.prog 88 #[.int .u8 b] w fun e w' => e = .returned (.int .i64 (hexV b)) ∧ w' = w := by
  have hb : (b : Int) < 256 := by omega
  by_cases k0 : b ≤ 47
  · have e : hexV b = -1 := by unfold hexV; rw [if_neg (by omega), if_neg (by omega), if_neg (by omega)]
    rw [e]
    have g48 : decide ((48 : Int) ≤ (b : Int)) = false := by simp; omega
    have l57 : decide ((b : Int) ≤ 57) = true := by simp; omega
    have g65 : decide ((65 : Int) ≤ (b : Int)) = false := by simp; omega
    have l70 : decide ((b : Int) ≤ 70) = true := by simp; omega
    have g97 : decide ((97 : Int) ≤ (b : Int)) = false := by simp; omega
    have l102 : decide ((b : Int) ≤ 102) = true := by simp; omega
    clear e k0 h
    go_enter Tryz.func88, Tryz.ntmps88
    go_wp2
    go_ret
    exact ⟨rfl, rfl⟩
  by_cases k1 : b ≤ 57
  · have e : hexV b = (b : Int) - 48 := by unfold hexV; rw [if_pos (by omega)]
    rw [e]
    have g48 : decide ((48 : Int) ≤ (b : Int)) = true := by simp; omega
    have l57 : decide ((b : Int) ≤ 57) = true := by simp; omega
    have g65 : decide ((65 : Int) ≤ (b : Int)) = false := by simp; omega
    have l70 : decide ((b : Int) ≤ 70) = true := by simp; omega
    have g97 : decide ((97 : Int) ≤ (b : Int)) = false := by simp; omega
    have l102 : decide ((b : Int) ≤ 102) = true := by simp; omega
    have p : (48 : Int) ≤ (b : Int) := by omega
    clear e k0 k1 h
    go_enter Tryz.func88, Tryz.ntmps88
    go_wp2
    go_ret
    exact ⟨by go_num, rfl⟩
  by_cases k2 : b ≤ 64
  · have e : hexV b = -1 := by unfold hexV; rw [if_neg (by omega), if_neg (by omega), if_neg (by omega)]
    rw [e]
    have g48 : decide ((48 : Int) ≤ (b : Int)) = true := by simp; omega
    have l57 : decide ((b : Int) ≤ 57) = false := by simp; omega
    have g65 : decide ((65 : Int) ≤ (b : Int)) = false := by simp; omega
    have l70 : decide ((b : Int) ≤ 70) = true := by simp; omega
    have g97 : decide ((97 : Int) ≤ (b : Int)) = false := by simp; omega
    have l102 : decide ((b : Int) ≤ 102) = true := by simp; omega
    clear e k0 k1 k2 h
    go_enter Tryz.func88, Tryz.ntmps88
    go_wp2
    go_ret
    exact ⟨rfl, rfl⟩
  by_cases k3 : b ≤ 70
  · have e : hexV b = (b : Int) - 55 := by unfold hexV; rw [if_neg (by omega), if_pos (by omega)]
    rw [e]
    have g48 : decide ((48 : Int) ≤ (b : Int)) = true := by simp; omega
    have l57 : decide ((b : Int) ≤ 57) = false := by simp; omega
    have g65 : decide ((65 : Int) ≤ (b : Int)) = true := by simp; omega
    have l70 : decide ((b : Int) ≤ 70) = true := by simp; omega
    have g97 : decide ((97 : Int) ≤ (b : Int)) = false := by simp; omega
    have l102 : decide ((b : Int) ≤ 102) = true := by simp; omega
    have p : (65 : Int) ≤ (b : Int) := by omega
    clear e k0 k1 k2 k3 h
    go_enter Tryz.func88, Tryz.ntmps88
    go_wp2
    go_ret
    exact ⟨by go_num, rfl⟩
  by_cases k4 : b ≤ 96
  · have e : hexV b = -1 := by unfold hexV; rw [if_neg (by omega), if_neg (by omega), if_neg (by omega)]
    rw [e]
    have g48 : decide ((48 : Int) ≤ (b : Int)) = true := by simp; omega
    have l57 : decide ((b : Int) ≤ 57) = false := by simp; omega
    have g65 : decide ((65 : Int) ≤ (b : Int)) = true := by simp; omega
    have l70 : decide ((b : Int) ≤ 70) = false := by simp; omega
    have g97 : decide ((97 : Int) ≤ (b : Int)) = false := by simp; omega
    have l102 : decide ((b : Int) ≤ 102) = true := by simp; omega
    clear e k0 k1 k2 k3 k4 h
    go_enter Tryz.func88, Tryz.ntmps88
    go_wp2
    go_ret
    exact ⟨rfl, rfl⟩
  by_cases k5 : b ≤ 102
  · have e : hexV b = (b : Int) - 87 := by unfold hexV; rw [if_neg (by omega), if_neg (by omega), if_pos (by omega)]
    rw [e]
    have g48 : decide ((48 : Int) ≤ (b : Int)) = true := by simp; omega
    have l57 : decide ((b : Int) ≤ 57) = false := by simp; omega
    have g65 : decide ((65 : Int) ≤ (b : Int)) = true := by simp; omega
    have l70 : decide ((b : Int) ≤ 70) = false := by simp; omega
    have g97 : decide ((97 : Int) ≤ (b : Int)) = true := by simp; omega
    have l102 : decide ((b : Int) ≤ 102) = true := by simp; omega
    have p : (97 : Int) ≤ (b : Int) := by omega
    clear e k0 k1 k2 k3 k4 k5 h
    go_enter Tryz.func88, Tryz.ntmps88
    go_wp2
    go_ret
    exact ⟨by go_num, rfl⟩
  · have e : hexV b = -1 := by unfold hexV; rw [if_neg (by omega), if_neg (by omega), if_neg (by omega)]
    rw [e]
    have g48 : decide ((48 : Int) ≤ (b : Int)) = true := by simp; omega
    have l57 : decide ((b : Int) ≤ 57) = false := by simp; omega
    have g65 : decide ((65 : Int) ≤ (b : Int)) = true := by simp; omega
    have l70 : decide ((b : Int) ≤ 70) = false := by simp; omega
    have g97 : decide ((97 : Int) ≤ (b : Int)) = true := by simp; omega
    have l102 : decide ((b : Int) ≤ 102) = false := by simp; omega
    clear e k0 k1 k2 k3 k4 k5 h
    go_enter Tryz.func88, Tryz.ntmps88
    go_wp2
    go_ret
    exact ⟨rfl, rfl⟩

/- how many bytes from the head on are such -/
def run (p : Nat → Bool) : List UInt8 → Nat
  | [] => 0
  | c :: l => if p c.toNat then 1 + run p l else 0
theorem run_le (p : Nat → Bool) (l : List UInt8) : run p l ≤ l.length := by
  induction l with
  | nil => simp [run]
  | cons c l ih => unfold run; split <;> simp <;> omega
theorem drop_at (s : ByteArray) (k : Nat) (h : k < s.size) : s.data.toList.drop k = s[k] :: s.data.toList.drop (k + 1) := by
  rw [List.drop_eq_getElem_cons (by simpa using h)]
  rfl
def blanksV (l : List UInt8) (k : Nat) : Nat := k + run isBl (l.drop k)
def wordV (l : List UInt8) (k : Nat) : Nat := k + run (fun b => !isEnd b) (l.drop k)
theorem blanks_any (s : ByteArray) (at_ : Nat) (w : World) (hs : s.size ≤ 16777216) (ha : at_ ≤ s.size) :
    Calls Tryz.prog 34 #[.string s, .int .i64 at_] w fun e w' => e = .returned (.int .i64 (blanksV s.data.toList at_)) ∧ w' = w := by
  obtain ⟨R, hR⟩ : ∃ R, blanksV s.data.toList at_ = R := ⟨_, rfl⟩
  rw [hR]
  have HR := hide hR
  have hs' : (s.size : Int) ≤ 16777216 := by omega
  clear hR hs
  go_enter Tryz.func34, Tryz.ntmps34
  go_wp2_with fail
  go_loop [1] (fun vn => ∃ k : Nat, vn = .int .i64 k ∧ Hid (k ≤ s.size ∧ blanksV s.data.toList k = R)) (fun vn => s.size - (intOf vn).toNat)
  case atStart => exact ⟨at_, rfl, hide ⟨ha, HR.out⟩⟩
  case round =>
    obtain ⟨k, rfl, HK⟩ := hrel
    obtain ⟨k1, k2⟩ := HK.out
    clear HK
    by_cases hlt : k < s.size
    · have hlt' : (k : Int) < (s.size : Int) := by omega
      have hst : blanksV s.data.toList k = if isBl s[k].toNat then blanksV s.data.toList (k + 1) else k := by
        unfold blanksV
        rw [drop_at s k hlt, run]
        split <;> omega
      have CB := hide (fun w => blank_any s[k].toNat w s[k].toNat_lt)
      cases hb : isBl s[k].toNat
      · rw [hb, if_neg (by simp), k2] at hst
        subst hst
        rw [hb] at CB
        clear k2 hb
        go_wp2_with (go_at_call 64; refine (CB.out _).mono ?_; rintro e w1 ⟨rfl, rfl⟩)
        go_ret
        exact ⟨rfl, rfl⟩
      · rw [hb, if_pos rfl, k2] at hst
        have K := hide hst.symm
        rw [hb] at CB
        clear k2 hb hst
        go_wp2_with (go_at_call 64; refine (CB.out _).mono ?_; rintro e w1 ⟨rfl, rfl⟩)
        go_round
        case rel => exact ⟨k + 1, by go_num, hide ⟨by omega, K.out⟩⟩
        case measure => simp [intOf]; omega
    · have hlt' : decide ((k : Int) < (s.size : Int)) = false := by simp; omega
      have hst : blanksV s.data.toList k = k := by
        unfold blanksV
        rw [List.drop_eq_nil_of_le (by rw [← Lib.size_eq]; omega)]
        rfl
      rw [k2] at hst
      subst hst
      clear k2
      go_wp2
      go_ret
      exact ⟨rfl, rfl⟩
end Go.Proofs.YtcgoklacjniemaaGreatDoor
