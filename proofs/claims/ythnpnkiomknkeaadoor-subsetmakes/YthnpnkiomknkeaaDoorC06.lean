/-
  Joined: M9Sml, C11S.
-/
import Derived.BigQuiet
import Derived.Deep.QuietTactic
import Derived.Deep.RegionHeld3
import Derived.Laws.BitsLemmas
import Derived.Test.YthnpnkiomknkeaaDoorC02
import Derived.Test.YthnpnkiomknkeaaDoorC05
namespace Go.Proofs.YthnpnkiomknkeaaDoor
open Go.RowKit Go.Deep
set_option linter.unusedVariables false
theorem or_bytes (x y : Int) (hx0 : 0 ≤ x) (hx : x < 256) (hy0 : 0 ≤ y) (hy : y < 256) : bits .or .i64 (x * 256) y = x * 256 + y :=
  bits_join .i64 62 (by decide) (fun n h0 h1 => by rw [IntKind.wrap_i64]; omega) 8 (x * 256) y (by omega) (by omega) (by omega) hy0 (by omega) (by omega)
theorem getD_at (s : ByteArray) (j : Nat) (h : j < s.size) : s.data.toList.getD j 0 = s[j] := by
  rw [List.getD_eq_getElem?_getD, List.getElem?_eq_getElem (by rw [← Lib.size_eq]; exact h)]
  rfl
theorem bt_at (s : ByteArray) (j : Nat) (h : j < s.size) : bt s.data.toList j = s[j].toNat := by unfold bt; rw [getD_at s j h]
theorem within_any (lo hi : Int) (a : Option Addr) (zs : List Int) (n c : Nat) (w : World) (hn : zs.length = n) (hm : n ≤ 1073741824) (hL : Lst w a zs) :
    Calls Tryd.prog 45 #[.int .i64 lo, .int .i64 hi, .slice a n c] w fun e w' => e = .returned (.bool (wiB lo hi zs)) ∧ w' = w := by
  have hm' : (n : Int) ≤ 1073741824 := by omega
  have HL := hide hL
  have HN := hide hn
  clear hL hn hm
  go_enter Tryd.func45, Tryd.ntmps45
  go_wp2_with fail
  go_loop [11] (fun vi => ∃ (k : Nat), vi = .int .i64 k ∧ Hid (k ≤ n ∧ ∀ j, j < k → lo ≤ zs.getD j 0 ∧ zs.getD j 0 ≤ hi)) (fun vi => n - (intOf vi).toNat)
  case atStart => exact ⟨0, rfl, hide ⟨by omega, fun j hj => by omega⟩⟩
  case round =>
    obtain ⟨k, rfl, HV⟩ := hrel
    obtain ⟨hk, hv⟩ := HV.out
    have hk0 : (0 : Int) ≤ (k : Int) := by omega
    have HVV := hide hv
    clear HV hv
    by_cases hlt : k < n
    case neg =>
      have hlt' : ¬ (k : Int) < (n : Int) := by omega
      have E : Hid (wiB lo hi zs = true) := hide (wiB_of fun j hj => HVV.out j (by have := HN.out; omega))
      clear HVV
      go_wp2_with fail
      go_ret
      exact ⟨by rw [E.out]; rfl, rfl⟩
    have hlt' : (k : Int) < (n : Int) := by omega
    rcases HL.out with hz | ⟨b, o, rfl, hb, hcell⟩
    · have := HN.out; rw [hz] at this; simp at this; omega
    have hc := hcell k (by have := HN.out; omega)
    have E := hide (fun h => wiB_not (lo := lo) (hi := hi) (zs := zs) (k := k) (by have := HN.out; omega) h)
    have E2 : Hid (∀ x, x = zs.getD k 0 → lo ≤ x ∧ x ≤ hi → ∀ j, j < k + 1 → lo ≤ zs.getD j 0 ∧ zs.getD j 0 ≤ hi) := hide fun x hx h j hj => by
      rcases Nat.lt_or_ge j k with h' | h'
      · exact HVV.out j h'
      · obtain rfl : j = k := by omega
        rw [← hx]; exact h
    have HX : Hid (zs.getD k 0 = zs.getD k 0) := hide rfl
    generalize zs.getD k 0 = x at hc E E2
    clear hcell HVV HX
    by_cases q1 : x < lo
    · have q1' : ¬ lo ≤ x := by omega
      clear E2
      go_wp2_with fail
      go_ret
      exact ⟨by rw [E.out (by omega)]; rfl, rfl⟩
    by_cases q2 : hi < x
    · clear E2
      go_wp2_with fail
      go_ret
      exact ⟨by rw [E.out (by omega)]; rfl, rfl⟩
    go_wp2_with fail
    go_round
    case rel => exact ⟨k + 1, by go_num, hide ⟨by omega, E2.out x rfl (by omega)⟩⟩
    case measure => simp [intOf]; omega
theorem ru2_any (s : ByteArray) (k : Nat) (z : Int) (w : World) (hz : z = (k : Int)) (h : k + 2 ≤ s.size) (hm : s.size ≤ 1073741824) :
    Calls Tryd.prog 56 #[.string s, .int .i64 z] w fun e w' => e = .returned (.int .i64 ((n2 s.data.toList k : Nat) : Int)) ∧ ∃ n, w' = w.drewN n := by
  subst hz
  have h0 : (k : Int) < (s.size : Int) := by omega
  have h1 : (k : Int) + 1 < (s.size : Int) := by omega
  have h3 : (s.size : Int) ≤ 1073741824 := by omega
  have h00 : (0 : Int) ≤ (k : Int) := by omega
  have c1 : ¬ (k : Int) < 0 := by omega
  have c2 : ¬ (s.size : Int) - 2 < (k : Int) := by omega
  have a0 := s[k].toNat_lt
  have a1 := s[k + 1].toNat_lt
  have b0 : (s[k].toNat : Int) ≤ 255 := by omega
  have b1 : (s[k + 1].toNat : Int) ≤ 255 := by omega
  have ho := or_bytes (s[k].toNat : Int) (s[k + 1].toNat : Int) (by omega) (by omega) (by omega) (by omega)
  have HU := hide (show (s[k].toNat : Int) * 256 + (s[k + 1].toNat : Int) = ((n2 s.data.toList k : Nat) : Int) by
    unfold n2
    rw [bt_at s k (by omega), bt_at s (k + 1) (by omega)]
    omega)
  have k0 : IntKind.i64.wrap (s[k].toNat : Int) = (s[k].toNat : Int) := by rw [IntKind.wrap_i64]; omega
  have k1 : IntKind.i64.wrap (s[k + 1].toNat : Int) = (s[k + 1].toNat : Int) := by rw [IntKind.wrap_i64]; omega
  have k2 : IntKind.i64.wrap ((s[k].toNat : Int) * 256) = (s[k].toNat : Int) * 256 := by rw [IntKind.wrap_i64]; omega
  have k3 : ((k : Int) + 1).toNat = k + 1 := by omega
  have k4 : IntKind.i64.wrap ((k : Int) + 1) = (k : Int) + 1 := by rw [IntKind.wrap_i64]; omega
  have h10 : (0 : Int) ≤ (k : Int) + 1 := by omega
  have hu := HU.out
  rw [hu] at ho
  clear a0 a1 hu
  go_enter Tryd.func56, Tryd.ntmps56
  go_wp2_with fail
  rename_i q0
  have HA := hide q0
  clear q0
  go_region_held3 (fun _ => True) (first | trivial | go_keep) ((fail))
  all_goals
    refine HA.out _ _ ?_
    go_wp2
    go_ret
    exact ⟨rfl, 1, rfl⟩
end Go.Proofs.YthnpnkiomknkeaaDoor
namespace Go.Proofs.YthnpnkiomknkeaaDoor.C11
open Go.RowKit Go.Deep
set_option linter.unusedVariables false
def win (c a b : Int) : Bool := decide (a ≤ c ∧ c ≤ b)
theorem win_t {c a b : Int} (h : a ≤ c ∧ c ≤ b) : win c a b = true := decide_eq_true h
theorem win_f {c a b : Int} (h : ¬ (a ≤ c ∧ c ≤ b)) : win c a b = false := decide_eq_false h
theorem cwithin_any (c a b : Int) (w : World) :
    Calls Tryd.prog 92 #[.int .i64 c, .int .i64 a, .int .i64 b] w fun e w' => e = .returned (.bool (win c a b)) ∧ w' = w := by
  by_cases h1 : a ≤ c
  · by_cases h2 : c ≤ b
    · rw [win_t ⟨h1, h2⟩]
      go_enter Tryd.func92, Tryd.ntmps92
      go_wp2
      go_ret
      exact ⟨rfl, rfl⟩
    · rw [win_f (by omega)]
      have hd : decide (c ≤ b) = false := by simp; omega
      go_enter Tryd.func92, Tryd.ntmps92
      go_wp2
      go_ret
      exact ⟨rfl, rfl⟩
  · rw [win_f (by omega)]
    have hd : decide (a ≤ c) = false := by simp; omega
    go_enter Tryd.func92, Tryd.ntmps92
    go_wp2
    go_ret
    exact ⟨rfl, rfl⟩
theorem upoint_any (c : Int) (w : World) :
    Calls Tryd.prog 90 #[.int .i64 c] w fun e w' => e = .returned (.bool (isP c)) ∧ w' = w := by
  cases h1 : win c 0 1114111
  · rw [isP_f.2 (by unfold win at h1; simp at h1; omega)]
    go_enter Tryd.func90, Tryd.ntmps90
    go_wp2_with (go_at_call 92; refine (cwithin_any _ _ _ _).mono ?_; rintro e w' ⟨rfl, rfl⟩)
    go_ret
    exact ⟨rfl, rfl⟩
  · cases h2 : win c 55296 57343
    · rw [isP_t.2 (by unfold win at h1 h2; simp at h1 h2; omega)]
      go_enter Tryd.func90, Tryd.ntmps90
      go_wp2_with (go_at_call 92; refine (cwithin_any _ _ _ _).mono ?_; rintro e w' ⟨rfl, rfl⟩)
      go_ret
      exact ⟨rfl, rfl⟩
    · rw [isP_f.2 (by unfold win at h1 h2; simp at h1 h2; omega)]
      go_enter Tryd.func90, Tryd.ntmps90
      go_wp2_with (go_at_call 92; refine (cwithin_any _ _ _ _).mono ?_; rintro e w' ⟨rfl, rfl⟩)
      go_ret
      exact ⟨rfl, rfl⟩
def letB (c : Int) : Bool := decide ((65 ≤ c ∧ c ≤ 90) ∨ (97 ≤ c ∧ c ≤ 122) ∨ (192 ≤ c ∧ c ≤ 255 ∧ c ≠ 215 ∧ c ≠ 247))
theorem letter_any (c : Int) (w : World) :
    Calls Tryd.prog 91 #[.int .i64 c] w fun e w' => e = .returned (.bool (letB c)) ∧ w' = w := by
  obtain ⟨L, hL⟩ : ∃ L, letB c = L := ⟨_, rfl⟩
  rw [hL]
  have HL := hide hL
  clear hL
  cases h1 : win c 65 90 <;> cases h2 : win c 97 122 <;> cases h3 : win c 192 255 <;> cases h4 : (c != 215) <;> cases h5 : (c != 247)
  all_goals
    go_enter Tryd.func91, Tryd.ntmps91
    go_wp2_with (go_at_call 92; refine (cwithin_any _ _ _ _).mono ?_; rintro e w' ⟨rfl, rfl⟩)
    go_ret
    refine ⟨?_, rfl⟩
    have hl := HL.out
    rw [← hl]
    clear HL hl
    unfold win at *
    unfold letB
    simp only [decide_eq_true_eq, decide_eq_false_iff_not, bne_iff_ne, bne_eq_false_iff_eq, ne_eq] at *
    first
      | (rw [decide_eq_true (by omega)] <;> rfl)
      | (rw [decide_eq_false (by omega)] <;> rfl)
def blkB (c : Int) : Bool := decide (c = 9 ∨ c = 10 ∨ c = 13 ∨ c = 32)
def clsV (c : Int) : Int := if isP c = false then 0 else if blkB c then 1 else if letB c then 2 else if win c 48 57 then 3 else if decide (c < 32) || win c 127 159 then 4 else 5
theorem class_any (c : Int) (w : World) :
    Calls Tryd.prog 86 #[.int .i64 c] w fun e w' => e = .returned (.int .i64 (clsV c)) ∧ w' = w := by
  unfold clsV
  cases h1 : isP c
  · rw [if_pos rfl]
    go_enter Tryd.func86, Tryd.ntmps86
    go_wp2_with (go_at_call 90; refine (upoint_any _ _).mono ?_; rintro e w' ⟨rfl, rfl⟩)
    go_ret
    exact ⟨rfl, rfl⟩
  rw [if_neg (by simp)]
  cases h2 : blkB c
  · have b1 : (c == 9) = false := by unfold blkB at h2; simp at h2; simp; omega
    have b2 : (c == 10) = false := by unfold blkB at h2; simp at h2; simp; omega
    have b3 : (c == 13) = false := by unfold blkB at h2; simp at h2; simp; omega
    have b4 : (c == 32) = false := by unfold blkB at h2; simp at h2; simp; omega
    rw [if_neg (by simp)]
    cases h3 : letB c <;> cases h4 : win c 48 57 <;> cases h5 : decide (c < 32) <;> cases h6 : win c 127 159
    all_goals
      go_enter Tryd.func86, Tryd.ntmps86
      go_wp2_with (first | (go_at_call 90; refine (upoint_any _ _).mono ?_; rintro e w' ⟨rfl, rfl⟩) | (go_at_call 92; refine (cwithin_any _ _ _ _).mono ?_; rintro e w' ⟨rfl, rfl⟩) | (go_at_call 91; refine (letter_any _ _).mono ?_; rintro e w' ⟨rfl, rfl⟩))
      go_ret
      exact ⟨rfl, rfl⟩
  · rw [if_pos rfl]
    have way : c = 9 ∨ c = 10 ∨ c = 13 ∨ c = 32 := by unfold blkB at h2; simpa using h2
    rcases way with rfl | rfl | rfl | rfl
    all_goals
      go_enter Tryd.func86, Tryd.ntmps86
      go_wp2_with (first | (go_at_call 90; refine (upoint_any _ _).mono ?_; rintro e w' ⟨rfl, rfl⟩))
      go_ret
      exact ⟨rfl, rfl⟩
theorem cls_zero (c : Int) : (clsV c != 0) = isP c := by
  unfold clsV
  cases h : isP c
  · rfl
  · rw [if_neg (by simp)]
    split
    · rfl
    · split
      · rfl
      · split
        · rfl
        · split <;> rfl
theorem isPt_any (c : Int) (w : World) : Calls Tryd.prog 77 #[.int .i64 c] w fun e w' => e = .returned (.bool (isP c)) ∧ w' = w := by
  have C := hide (fun w => class_any c w)
  have h := cls_zero c
  generalize clsV c = z at C h
  generalize isP c = B at h
  go_enter Tryd.func77, Tryd.ntmps77
  go_wp2_with (go_at_call 86; refine (C.out _).mono ?_; rintro e w' ⟨rfl, rfl⟩)
  go_ret
  exact ⟨by simp_all, rfl⟩
end Go.Proofs.YthnpnkiomknkeaaDoor.C11
