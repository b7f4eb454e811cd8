/-
  What cmap's small functions answer: isPoint, two, four, holdsPoints, fits, goesOn; the reference's Is, U2, U4.
-/
import Derived.Test.YthgpchjkeidilaaM9Sml
import Derived.Test.YthgpchjkeidilaaC11P
namespace Go.Proofs.Ythgpchjkeidilaa
open Go.RowKit Go.Deep
set_option linter.unusedVariables false

def win (c a b : Int) : Bool := decide (a ≤ c ∧ c ≤ b)
theorem win_t {c a b : Int} (h : a ≤ c ∧ c ≤ b) : win c a b = true := decide_eq_true h
theorem win_f {c a b : Int} (h : ¬ (a ≤ c ∧ c ≤ b)) : win c a b = false := decide_eq_false h
theorem cwithin_any (c a b : Int) (w : World) :
    Calls Try.prog 47 #[.int .i64 c, .int .i64 a, .int .i64 b] w fun e w' => e = .returned (.bool (win c a b)) ∧ w' = w := by
  by_cases h1 : a ≤ c
  · by_cases h2 : c ≤ b
    · rw [win_t ⟨h1, h2⟩]
      go_enter Try.func47, Try.ntmps47
      go_wp2
      go_ret
      exact ⟨rfl, rfl⟩
    · rw [win_f (by omega)]
      have hd : decide (c ≤ b) = false := by simp; omega
      go_enter Try.func47, Try.ntmps47
      go_wp2
      go_ret
      exact ⟨rfl, rfl⟩
  · rw [win_f (by omega)]
    have hd : decide (a ≤ c) = false := by simp; omega
    go_enter Try.func47, Try.ntmps47
    go_wp2
    go_ret
    exact ⟨rfl, rfl⟩
theorem upoint_any (c : Int) (w : World) :
    Calls Try.prog 45 #[.int .i64 c] w fun e w' => e = .returned (.bool (isP c)) ∧ w' = w := by
  cases h1 : win c 0 1114111
  · rw [isP_f.2 (by unfold win at h1; simp at h1; omega)]
    go_enter Try.func45, Try.ntmps45
    go_wp2_with (go_at_call 47; refine (cwithin_any _ _ _ _).mono ?_; rintro e w' ⟨rfl, rfl⟩)
    go_ret
    exact ⟨rfl, rfl⟩
  · cases h2 : win c 55296 57343
    · rw [isP_t.2 (by unfold win at h1 h2; simp at h1 h2; omega)]
      go_enter Try.func45, Try.ntmps45
      go_wp2_with (go_at_call 47; refine (cwithin_any _ _ _ _).mono ?_; rintro e w' ⟨rfl, rfl⟩)
      go_ret
      exact ⟨rfl, rfl⟩
    · rw [isP_f.2 (by unfold win at h1 h2; simp at h1 h2; omega)]
      go_enter Try.func45, Try.ntmps45
      go_wp2_with (go_at_call 47; refine (cwithin_any _ _ _ _).mono ?_; rintro e w' ⟨rfl, rfl⟩)
      go_ret
      exact ⟨rfl, rfl⟩
def letB (c : Int) : Bool := decide ((65 ≤ c ∧ c ≤ 90) ∨ (97 ≤ c ∧ c ≤ 122) ∨ (192 ≤ c ∧ c ≤ 255 ∧ c ≠ 215 ∧ c ≠ 247))
theorem letter_any (c : Int) (w : World) :
    Calls Try.prog 46 #[.int .i64 c] w fun e w' => e = .returned (.bool (letB c)) ∧ w' = w := by
  obtain ⟨L, hL⟩ : ∃ L, letB c = L := ⟨_, rfl⟩
  rw [hL]
  have HL := hide hL
  clear hL
  cases h1 : win c 65 90 <;> cases h2 : win c 97 122 <;> cases h3 : win c 192 255 <;> cases h4 : (c != 215) <;> cases h5 : (c != 247)
  all_goals
    go_enter Try.func46, Try.ntmps46
    go_wp2_with (go_at_call 47; refine (cwithin_any _ _ _ _).mono ?_; rintro e w' ⟨rfl, rfl⟩)
    go_ret
    refine ⟨?_, rfl⟩
    have hl := HL.out
    rw [← hl]
    clear HL hl
    unfold win at *
    unfold letB
    simp only [decide_eq_true_eq, decide_eq_false_iff_not, bne_iff_ne, bne_eq_false_iff_eq, ne_eq] at *
    first
      | (rw [decide_eq_true (by omega)] <;> rfl)
      | (rw [decide_eq_false (by omega)] <;> rfl)
def blkB (c : Int) : Bool := decide (c = 9 ∨ c = 10 ∨ c = 13 ∨ c = 32)
def clsV (c : Int) : Int := if isP c = false then 0 else if blkB c then 1 else if letB c then 2 else if win c 48 57 then 3 else if decide (c < 32) || win c 127 159 then 4 else 5
theorem class_any (c : Int) (w : World) :
    Calls Try.prog 43 #[.int .i64 c] w fun e w' => e = .returned (.int .i64 (clsV c)) ∧ w' = w := by
  unfold clsV
  cases h1 : isP c
  · rw [if_pos rfl]
    go_enter Try.func43, Try.ntmps43
    go_wp2_with (go_at_call 45; refine (upoint_any _ _).mono ?_; rintro e w' ⟨rfl, rfl⟩)
    go_ret
    exact ⟨rfl, rfl⟩
  rw [if_neg (by simp)]
  cases h2 : blkB c
  · have b1 : (c == 9) = false := by unfold blkB at h2; simp at h2; simp; omega
    have b2 : (c == 10) = false := by unfold blkB at h2; simp at h2; simp; omega
    have b3 : (c == 13) = false := by unfold blkB at h2; simp at h2; simp; omega
    have b4 : (c == 32) = false := by unfold blkB at h2; simp at h2; simp; omega
    rw [if_neg (by simp)]
    cases h3 : letB c <;> cases h4 : win c 48 57 <;> cases h5 : decide (c < 32) <;> cases h6 : win c 127 159
    all_goals
      go_enter Try.func43, Try.ntmps43
      go_wp2_with (first | (go_at_call 45; refine (upoint_any _ _).mono ?_; rintro e w' ⟨rfl, rfl⟩) | (go_at_call 47; refine (cwithin_any _ _ _ _).mono ?_; rintro e w' ⟨rfl, rfl⟩) | (go_at_call 46; refine (letter_any _ _).mono ?_; rintro e w' ⟨rfl, rfl⟩))
      go_ret
      exact ⟨rfl, rfl⟩
  · rw [if_pos rfl]
    have way : c = 9 ∨ c = 10 ∨ c = 13 ∨ c = 32 := by unfold blkB at h2; simpa using h2
    rcases way with rfl | rfl | rfl | rfl
    all_goals
      go_enter Try.func43, Try.ntmps43
      go_wp2_with (first | (go_at_call 45; refine (upoint_any _ _).mono ?_; rintro e w' ⟨rfl, rfl⟩))
      go_ret
      exact ⟨rfl, rfl⟩
theorem cls_zero (c : Int) : (clsV c != 0) = isP c := by
  unfold clsV
  cases h : isP c
  · rfl
  · rw [if_neg (by simp)]
    split
    · rfl
    · split
      · rfl
      · split
        · rfl
        · split <;> rfl
theorem isPt_any (c : Int) (w : World) : Calls Try.prog 40 #[.int .i64 c] w fun e w' => e = .returned (.bool (isP c)) ∧ w' = w := by
  have C := hide (fun w => class_any c w)
  have h := cls_zero c
  generalize clsV c = z at C h
  generalize isP c = B at h
  go_enter Try.func40, Try.ntmps40
  go_wp2_with (go_at_call 43; refine (C.out _).mono ?_; rintro e w' ⟨rfl, rfl⟩)
  go_ret
  exact ⟨by simp_all, rfl⟩
theorem two_any (s : ByteArray) (k : Nat) (z : Int) (w : World) (hz : z = (k : Int)) (h : k + 2 ≤ s.size) (hm : s.size ≤ 1073741824) :
    Calls Try.prog 38 #[.string s, .int .i64 z] w fun e w' => e = .returned (.int .i64 ((n2 s.data.toList k : Nat) : Int)) ∧ ∃ n, w' = w.drewN n := by
  subst hz
  have h0 : (k : Int) < (s.size : Int) := by omega
  have h1 : (k : Int) + 1 < (s.size : Int) := by omega
  have h3 : (s.size : Int) ≤ 1073741824 := by omega
  have h00 : (0 : Int) ≤ (k : Int) := by omega
  have a0 := s[k].toNat_lt
  have a1 := s[k + 1].toNat_lt
  have b0 : (s[k].toNat : Int) ≤ 255 := by omega
  have b1 : (s[k + 1].toNat : Int) ≤ 255 := by omega
  have ho := or_bytes (s[k].toNat : Int) (s[k + 1].toNat : Int) (by omega) (by omega) (by omega) (by omega)
  have HU := hide (show (s[k].toNat : Int) * 256 + (s[k + 1].toNat : Int) = ((n2 s.data.toList k : Nat) : Int) by
    unfold n2
    rw [bt_at s k (by omega), bt_at s (k + 1) (by omega)]
    omega)
  have k0 : IntKind.i64.wrap (s[k].toNat : Int) = (s[k].toNat : Int) := by rw [IntKind.wrap_i64]; omega
  have k1 : IntKind.i64.wrap (s[k + 1].toNat : Int) = (s[k + 1].toNat : Int) := by rw [IntKind.wrap_i64]; omega
  have k2 : IntKind.i64.wrap ((s[k].toNat : Int) * 256) = (s[k].toNat : Int) * 256 := by rw [IntKind.wrap_i64]; omega
  have k3 : ((k : Int) + 1).toNat = k + 1 := by omega
  have k4 : IntKind.i64.wrap ((k : Int) + 1) = (k : Int) + 1 := by rw [IntKind.wrap_i64]; omega
  have h10 : (0 : Int) ≤ (k : Int) + 1 := by omega
  have hu := HU.out
  rw [hu] at ho
  clear a0 a1 hu
  go_enter Try.func38, Try.ntmps38
  go_wp2_with fail
  rename_i q0
  have HA := hide q0
  clear q0
  go_region_held3 (fun _ => True) (first | trivial | go_keep) ((fail))
  all_goals
    refine HA.out _ _ ?_
    go_wp2
    go_ret
    exact ⟨rfl, 1, rfl⟩
theorem or_two (x y : Int) (hx0 : 0 ≤ x) (hx : x < 65536) (hy0 : 0 ≤ y) (hy : y < 65536) : bits .or .i64 (x * 65536) y = x * 65536 + y :=
  bits_join .i64 62 (by decide) (fun n h0 h1 => by rw [IntKind.wrap_i64]; omega) 16 (x * 65536) y (by omega) (by omega) (by omega) hy0 (by omega) (by omega)
theorem four_any (s : ByteArray) (k : Nat) (z : Int) (w : World) (hz : z = (k : Int)) (h : k + 4 ≤ s.size) (hm : s.size ≤ 1073741824) :
    Calls Try.prog 39 #[.string s, .int .i64 z] w fun e w' => e = .returned (.int .i64 ((n4 s.data.toList k : Nat) : Int)) ∧ ∃ n, w' = w.drewN n := by
  subst hz
  have C1 := hide (fun z w (hz : z = (k : Int)) => two_any s k z w hz (by omega) hm)
  have C2 := hide (fun z w (hz : z = ((k + 2 : Nat) : Int)) => two_any s (k + 2) z w hz (by omega) hm)
  have h1 := n2_lt s.data.toList k
  have h2 := n2_lt s.data.toList (k + 2)
  have HV : Hid (((n4 s.data.toList k : Nat) : Int) = ((n2 s.data.toList k : Nat) : Int) * 65536 + ((n2 s.data.toList (k + 2) : Nat) : Int)) := hide (by unfold n4; omega)
  generalize n4 s.data.toList k = R at HV ⊢
  generalize n2 s.data.toList k = A at C1 h1 HV
  generalize n2 s.data.toList (k + 2) = B at C2 h2 HV
  have ho := or_two (A : Int) (B : Int) (by omega) (by omega) (by omega) (by omega)
  have hv := HV.out
  rw [← hv] at ho
  have k0 : (0 : Int) ≤ (k : Int) := by omega
  have k1 : (k : Int) ≤ 1073741824 := by omega
  have a1 : (A : Int) ≤ 65535 := by omega
  have a0 : (0 : Int) ≤ (A : Int) := by omega
  clear h1 h2 hv h hm
  go_enter Try.func39, Try.ntmps39
  go_wp2_with fail
  refine (C1.out _ _ rfl).mono ?_
  rintro e wy ⟨rfl, m1, hy⟩
  subst wy
  go_wp2_with fail
  refine (C2.out _ _ (by omega)).mono ?_
  rintro e wy ⟨rfl, m2, hy⟩
  subst wy
  go_wp2_with fail
  go_ret
  exact ⟨rfl, _, rfl⟩
end Go.Proofs.Ythgpchjkeidilaa
