/-
  What the reference's four answers (made by c11rq.py).
-/
import Derived.Test.YtkmmphpaaahajaaC11Rt
import Derived.Test.YtkmmphpaaahajaaC11Ss
namespace Go.Proofs.Ytkmmphpaaahajaa
open Go.RowKit Go.Deep
set_option linter.unusedVariables false
set_option linter.unusedSimpArgs false

theorem half_n (y : Nat) : ((y : Int)).tdiv 2 = ((y / 2 : Nat) : Int) ∧ (y : Int) / 2 = ((y / 2 : Nat) : Int) := by
  refine ⟨?_, by omega⟩
  rw [Int.tdiv_eq_ediv_of_nonneg (by omega)]; omega
theorem rest_n (y : Nat) : ((y : Int)).tmod 2 = ((y % 2 : Nat) : Int) ∧ (y : Int) % 2 = ((y % 2 : Nat) : Int) := by
  refine ⟨?_, by omega⟩
  rw [Int.tmod_eq_emod_of_nonneg (by omega)]; omega
set_option maxRecDepth 8000 in
set_option maxHeartbeats 2000000 in
theorem rfo_bad (s : ByteArray) (n : Nat) (w : World) (hs : s.size ≤ 1073741824) (h : foB s.data.toList = false) :
    Calls Try.prog 25 #[.string s, .int .i64 (n : Int)] w fun e w' => e = .returned (.tuple #[.slice none 0 0, .bool false]) ∧ ∃ m, w' = w.drewN m := by
  have hs' : (s.size : Int) ≤ 1073741824 := by omega
  have hT : ¬ (16 ≤ s.data.toList.length ∧ s.data.toList.take 2 = [0, 4] ∧ n2 s.data.toList 6 % 2 = 0 ∧ 1 ≤ n2 s.data.toList 6 / 2 ∧ 16 + 8 * (n2 s.data.toList 6 / 2) ≤ n2 s.data.toList 2 ∧ n2 s.data.toList 2 ≤ s.data.toList.length) := fun hh => by rw [foB_t.2 hh] at h; cases h
  rw [← Lib.size_eq] at hT
  clear h
  have CZ6 := hide (fun w => ru2_z s 6 6 w rfl hs (by omega))
  have CZ2 := hide (fun w => ru2_z s 2 2 w rfl hs (by omega))
  by_cases h1 : s.size < 16
  · have h1' : (s.size : Int) < 16 := by omega
    clear hT
    go_enter Try.func25, Try.ntmps25
    go_wp2_with fail
    refine (CZ6.out _).mono ?_
    rintro e w1 ⟨y, rfl, y1, _, k1, hw⟩
    subst hw
    obtain ⟨d1, d2⟩ := half_n y
    generalize ((y / 2 : Nat) : Int) = M at *
    go_wp2_with fail
    refine (CZ2.out _).mono ?_
    rintro e w1 ⟨z, rfl, z1, _, k2, hw⟩
    subst hw
    go_wp2_with fail
    go_ret2
    exact ⟨rfl, _, rfl⟩
  have h1' : ¬ (s.size : Int) < 16 := by omega
  have h1b : (2 : Int) ≤ (s.size : Int) := by omega
  have hq := head_eq s 2 [0, 4]
  by_cases h2 : s.data.toList.take 2 = [0, 4]
  case neg =>
    rw [decide_eq_false h2] at hq
    clear hT h2
    go_enter Try.func25, Try.ntmps25
    go_wp2_with fail
    refine (CZ6.out _).mono ?_
    rintro e w1 ⟨y, rfl, y1, _, k1, hw⟩
    subst hw
    obtain ⟨d1, d2⟩ := half_n y
    generalize ((y / 2 : Nat) : Int) = M at *
    go_wp2_with fail
    refine (CZ2.out _).mono ?_
    rintro e w1 ⟨z, rfl, z1, _, k2, hw⟩
    subst hw
    go_wp2_with fail
    go_ret2
    exact ⟨rfl, _, rfl⟩
  rw [decide_eq_true h2] at hq
  have C2 := hide (fun w => ru2_any s 2 2 w rfl (by omega) hs)
  have C6 := hide (fun w => ru2_any s 6 6 w rfl (by omega) hs)
  have b2 := n2_lt s.data.toList 2
  have b6 := n2_lt s.data.toList 6
  have HT : Hid (¬ (n2 s.data.toList 6 % 2 = 0 ∧ 1 ≤ n2 s.data.toList 6 / 2 ∧ 16 + 8 * (n2 s.data.toList 6 / 2) ≤ n2 s.data.toList 2 ∧ n2 s.data.toList 2 ≤ s.size)) := hide (fun hh => hT ⟨by omega, h2, hh⟩)
  generalize n2 s.data.toList 2 = Z at *
  generalize n2 s.data.toList 6 = T at *
  obtain ⟨z, hz⟩ : ∃ z : Int, (Z : Int) = z := ⟨_, rfl⟩
  obtain ⟨t, ht⟩ : ∃ t : Int, (T : Int) = t := ⟨_, rfl⟩
  obtain ⟨m, hm⟩ : ∃ m : Int, ((T / 2 : Nat) : Int) = m := ⟨_, rfl⟩
  obtain ⟨r, hr⟩ : ∃ r : Int, ((T % 2 : Nat) : Int) = r := ⟨_, rfl⟩
  rw [hz] at C2
  rw [ht] at C6
  have z0 : 0 ≤ z := by omega
  have z1 : z ≤ 65535 := by omega
  have t0 : 0 ≤ t := by omega
  have t1 : t ≤ 65535 := by omega
  have m0 : 0 ≤ m := by omega
  have m1 : m ≤ 65535 := by omega
  have d1 : t.tdiv 2 = m := by rw [Int.tdiv_eq_ediv_of_nonneg t0]; omega
  have d2 : t / 2 = m := by omega
  have d3 : t.tmod 2 = r := by rw [Int.tmod_eq_emod_of_nonneg t0]; omega
  have d4 : t % 2 = r := by omega
  have HT' : Hid (¬ (r = 0 ∧ 1 ≤ m ∧ 16 + 8 * m ≤ z ∧ z ≤ (s.size : Int))) := hide (fun hh => HT.out (by omega))
  clear hT HT b2 b6 hz ht hm hr h2 CZ6 CZ2
  by_cases c1 : r = 0
  case neg =>
    have c1' : (r != 0) = true := by simpa using c1
    clear HT' c1
    go_enter Try.func25, Try.ntmps25
    go_wp2_with fail
    refine (C6.out _).mono ?_
    rintro e w1 ⟨rfl, k1, hw⟩
    subst hw
    go_wp2_with fail
    refine (C2.out _).mono ?_
    rintro e w1 ⟨rfl, k2, hw⟩
    subst hw
    go_wp2_with fail
    refine (C6.out _).mono ?_
    rintro e w1 ⟨rfl, k3, hw⟩
    subst hw
    go_wp2_with fail
    go_ret2
    exact ⟨rfl, _, rfl⟩
  subst c1
  have way : (m < 1) ∨ (¬ m < 1 ∧ z < 16 + 8 * m) ∨ (¬ m < 1 ∧ ¬ z < 16 + 8 * m ∧ (s.size : Int) < z) := by have := HT'.out; omega
  clear HT'
  rcases way with c2 | ⟨c2, c3⟩ | ⟨c2, c3, c4⟩
  all_goals
    go_enter Try.func25, Try.ntmps25
    go_wp2_with fail
    refine (C6.out _).mono ?_
    rintro e w1 ⟨rfl, k1, hw⟩
    subst hw
    go_wp2_with fail
    refine (C2.out _).mono ?_
    rintro e w1 ⟨rfl, k2, hw⟩
    subst hw
    go_wp2_with fail
    refine (C6.out _).mono ?_
    rintro e w1 ⟨rfl, k3, hw⟩
    subst hw
    go_wp2_with fail
    go_ret2
    exact ⟨rfl, _, rfl⟩
end Go.Proofs.Ytkmmphpaaahajaa
