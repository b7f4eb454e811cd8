/-
  What utf.unit and utf.narrowOne answer.
-/
import Derived.Test.YtncmkiejamkklaaDoorU4Cls
import Derived.Lib.Strings
import Derived.Laws.BitsLemmas
import Derived.Deep.QuietTactic
import Derived.BigQuiet
import Derived.Deep.Draws
import Derived.Deep.RegionHeld3
namespace Go.Proofs.YtncmkiejamkklaaDoor
open Go.RowKit

theorem or_bytes (x y : Int) (hx0 : 0 ≤ x) (hx : x < 256) (hy0 : 0 ≤ y) (hy : y < 256) : bits .or .i64 (x * 256) y = x * 256 + y :=
  bits_join .i64 62 (by decide) (fun n h0 h1 => by rw [IntKind.wrap_i64]; omega) 8 (x * 256) y (by omega) (by omega) (by omega) hy0 (by omega) (by omega)
theorem getD_at (s : ByteArray) (j : Nat) (h : j < s.size) : s.data.toList.getD j 0 = s[j] := by
  rw [List.getD_eq_getElem?_getD, List.getElem?_eq_getElem (by rw [← Lib.size_eq]; exact h)]
  rfl

theorem unit_short (s : ByteArray) (w : World) (h : s.size < 2) :
    Calls Tryd.prog 42 #[.string s] w fun e w' => e = .returned (.tuple #[.int .i64 0, .bool false]) ∧ w' = w := by
  have h1 : (s.size : Int) < 2 := by omega
  clear h
  go_enter Tryd.func42, Tryd.ntmps42
  go_wp2
  go_ret2
  exact ⟨rfl, rfl⟩
theorem unit_long (s : ByteArray) (w : World) (h : 2 ≤ s.size) (hm : s.size ≤ 65536) (U : Nat) (hU : un s.data.toList = U) :
    Calls Tryd.prog 42 #[.string s] w fun e w' => e = .returned (.tuple #[.int .i64 U, .bool true]) ∧ ∃ n, w' = w.drewN n := by
  have h1 : decide ((s.size : Int) < 2) = false := by simp; omega
  have h0 : (0 : Int) < (s.size : Int) := by omega
  have h2 : (1 : Int) < (s.size : Int) := by omega
  have h3 : (s.size : Int) ≤ 65536 := by omega
  have a0 := s[0].toNat_lt
  have a1 := s[1].toNat_lt
  have b0 : (s[0].toNat : Int) ≤ 255 := by omega
  have b1 : (s[1].toNat : Int) ≤ 255 := by omega
  have ho := or_bytes (s[0].toNat : Int) (s[1].toNat : Int) (by omega) (by omega) (by omega) (by omega)
  have HU := hide (show (s[0].toNat : Int) * 256 + (s[1].toNat : Int) = (U : Int) by
    rw [← hU]
    unfold un
    rw [getD_at s 0 (by omega), getD_at s 1 (by omega)]
    omega)
  have k0 : IntKind.i64.wrap (s[0].toNat : Int) = (s[0].toNat : Int) := by rw [IntKind.wrap_i64]; omega
  have k1 : IntKind.i64.wrap (s[1].toNat : Int) = (s[1].toNat : Int) := by rw [IntKind.wrap_i64]; omega
  have k2 : IntKind.i64.wrap ((s[0].toNat : Int) * 256) = (s[0].toNat : Int) * 256 := by rw [IntKind.wrap_i64]; omega
  have hu := HU.out
  rw [show ((256 : Nat) : Int) = 256 from rfl] at hu
  rw [hu] at ho
  clear hU a0 a1 hu
  go_enter Tryd.func42, Tryd.ntmps42
  go_wp2_with fail
  rename_i q0
  have HA := hide q0
  clear q0
  go_region_held3 (fun _ => True) (first | trivial | go_keep) ((fail))
  all_goals
    refine HA.out _ _ ?_
    go_wp2
    go_ret2
    exact ⟨rfl, 1, rfl⟩

theorem win_ft {c a b : Int} (h : win c a b = true) : a ≤ c ∧ c ≤ b := of_decide_eq_true h
theorem win_ff {c a b : Int} (h : win c a b = false) : ¬ (a ≤ c ∧ c ≤ b) := of_decide_eq_false h
set_option maxRecDepth 100000 in
set_option maxHeartbeats 1000000 in
theorem narrow_core (s : ByteArray) (w : World) (hm : s.size ≤ 65536) (C K : Nat) (hS : st16 s.data.toList = (C, K)) :
    Calls Tryd.prog 37 #[.string s] w fun e w' => e = .returned (.tuple #[.int .i64 C, .int .i64 K]) ∧ ∃ n, w' = w.drewN n := by
  unfold st16 at hS
  rw [← Lib.size_eq] at hS
  by_cases c1 : s.size < 2
  · rw [if_pos c1] at hS
    obtain ⟨rfl, rfl⟩ := Prod.mk.injEq _ _ _ _ ▸ hS
    have CU := hide (fun w => unit_short s w c1)
    clear hS c1 hm
    go_enter Tryd.func37, Tryd.ntmps37
    go_wp2_with (go_at_call 42; refine (CU.out _).mono ?_; rintro e w1 ⟨rfl, rfl⟩)
    go_ret2
    exact ⟨rfl, 0, rfl⟩
  rw [if_neg c1] at hS
  obtain ⟨U, hU⟩ : ∃ U, un s.data.toList = U := ⟨_, rfl⟩
  have CU := hide (fun w => unit_long s w (by omega) hm U hU)
  rw [hU] at hS
  have hub : U ≤ 65535 := by
    rw [← hU]
    unfold un
    have := (s.data.toList.getD 0 0).toNat_lt
    have := (s.data.toList.getD 1 0).toNat_lt
    omega
  have u1 : (U : Int) ≤ 65535 := by omega
  by_cases c2 : 56320 ≤ U ∧ U ≤ 57343
  · rw [if_pos c2] at hS
    obtain ⟨rfl, rfl⟩ := Prod.mk.injEq _ _ _ _ ▸ hS
    have w1 : win (U : Int) 56320 57343 = true := win_t (by omega)
    clear hS c1 c2 hm hU hub
    go_enter Tryd.func37, Tryd.ntmps37
    go_wp2_with (first | (go_at_call 42; refine (CU.out _).mono ?_; rintro e w1 ⟨rfl, n, rfl⟩) | (go_at_call 33; refine (within_any _ _ _ _).mono ?_; rintro e w2 ⟨rfl, rfl⟩))
    go_ret2
    exact ⟨rfl, n, rfl⟩
  rw [if_neg c2] at hS
  have w1 : win (U : Int) 56320 57343 = false := win_f (by omega)
  by_cases c3 : 55296 ≤ U ∧ U ≤ 56319
  · rw [if_neg (by omega)] at hS
    have w2 : win (U : Int) 55296 56319 = true := win_t (by omega)
    have u2 : (55296 : Int) ≤ (U : Int) := by omega
    have u3 : (U : Int) ≤ 56319 := by omega
    have g2 : (2 : Int) ≤ (s.size : Int) := by omega
    have hx : (s.extract 2 s.size).data.toList = s.data.toList.drop 2 := by
      rw [Lib.extract_data]
      exact List.take_of_length_le (by rw [List.length_drop, ← Lib.size_eq]; exact Nat.le_refl _)
    have hxs : (s.extract 2 s.size).size = s.size - 2 := by rw [Lib.size_eq, hx, List.length_drop, ← Lib.size_eq]
    by_cases c4 : s.size < 4
    · rw [if_pos c4] at hS
      obtain ⟨rfl, rfl⟩ := Prod.mk.injEq _ _ _ _ ▸ hS
      have CV := hide (fun w => unit_short (s.extract 2 s.size) w (by omega))
      clear hS c2 c3 c4 hm hU hub hx hxs
      go_enter Tryd.func37, Tryd.ntmps37
      go_wp2_with (go_at_call 33; refine (within_any _ _ _ _).mono ?_; rintro e w2 ⟨rfl, rfl⟩)
      refine (CU.out _).mono ?_
      rintro e w1 ⟨rfl, n, rfl⟩
      go_wp2_with (go_at_call 33; refine (within_any _ _ _ _).mono ?_; rintro e w2 ⟨rfl, rfl⟩)
      refine (CV.out _).mono ?_
      rintro e w3 ⟨rfl, rfl⟩
      go_wp2
      go_ret2
      exact ⟨rfl, n, rfl⟩
    rw [if_neg c4] at hS
    obtain ⟨V, hV⟩ : ∃ V, un (s.data.toList.drop 2) = V := ⟨_, rfl⟩
    have CV := hide (fun w => unit_long (s.extract 2 s.size) w (by omega) (by omega) V (by rw [hx]; exact hV))
    rw [hV] at hS
    have hvb : V ≤ 65535 := by
      rw [← hV]
      unfold un
      have := ((s.data.toList.drop 2).getD 0 0).toNat_lt
      have := ((s.data.toList.drop 2).getD 1 0).toNat_lt
      omega
    have v1 : (V : Int) ≤ 65535 := by omega
    by_cases c5 : 56320 ≤ V ∧ V ≤ 57343
    · rw [if_neg (by omega)] at hS
      obtain ⟨hC, hK⟩ := Prod.mk.injEq _ _ _ _ ▸ hS
      have w3 : win (V : Int) 56320 57343 = true := win_t (by omega)
      have v2 : (56320 : Int) ≤ (V : Int) := by omega
      have HC := hide (show (65536 : Int) + ((U : Int) - 55296) * 1024 + (V : Int) - 56320 = (C : Int) by omega)
      subst hK
      clear hS c2 c3 c4 c5 hm hU hub hx hxs hV hvb hC
      go_enter Tryd.func37, Tryd.ntmps37
      go_wp2_with fail
      refine (CU.out _).mono ?_
      rintro e w1 ⟨rfl, n, rfl⟩
      go_wp2_with (go_at_call 33; refine (within_any _ _ _ _).mono ?_; rintro e w2 ⟨rfl, rfl⟩)
      refine (CV.out _).mono ?_
      rintro e w3 ⟨rfl, m, rfl⟩
      go_wp2_with (go_at_call 33; refine (within_any _ _ _ _).mono ?_; rintro e w4 ⟨rfl, rfl⟩)
      go_ret2
      exact ⟨by rw [← HC.out]; rfl, n + m, rfl⟩
    · rw [if_pos c5] at hS
      obtain ⟨rfl, rfl⟩ := Prod.mk.injEq _ _ _ _ ▸ hS
      have w3 : win (V : Int) 56320 57343 = false := win_f (by omega)
      clear hS c2 c3 c4 c5 hm hU hub hx hxs hV hvb
      go_enter Tryd.func37, Tryd.ntmps37
      go_wp2_with fail
      refine (CU.out _).mono ?_
      rintro e w1 ⟨rfl, n, rfl⟩
      go_wp2_with (go_at_call 33; refine (within_any _ _ _ _).mono ?_; rintro e w2 ⟨rfl, rfl⟩)
      refine (CV.out _).mono ?_
      rintro e w3 ⟨rfl, m, rfl⟩
      go_wp2_with (go_at_call 33; refine (within_any _ _ _ _).mono ?_; rintro e w4 ⟨rfl, rfl⟩)
      go_ret2
      exact ⟨rfl, n + m, rfl⟩
  · rw [if_pos c3] at hS
    obtain ⟨rfl, rfl⟩ := Prod.mk.injEq _ _ _ _ ▸ hS
    have w2 : win (U : Int) 55296 56319 = false := win_f (by omega)
    clear hS c2 c3 hm hU hub
    go_enter Tryd.func37, Tryd.ntmps37
    go_wp2_with fail
    refine (CU.out _).mono ?_
    rintro e w1 ⟨rfl, n, rfl⟩
    go_wp2_with (go_at_call 33; refine (within_any _ _ _ _).mono ?_; rintro e w2 ⟨rfl, rfl⟩)
    go_ret2
    exact ⟨rfl, n, rfl⟩
end Go.Proofs.YtncmkiejamkklaaDoor
