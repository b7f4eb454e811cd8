/-
  What the reference's Pad answers; the law SfntAdds, walked.
-/
import Derived.Test.YtaddkdilmimcnaaDoorS8Law
import Derived.Laws.Concat
namespace Go.Proofs.YtaddkdilmimcnaaDoor
open Go.RowKit Go.Deep
set_option linter.unusedVariables false

abbrev zS : ByteArray := ⟨#[0]⟩
theorem zS_app (s : ByteArray) : (s ++ zS).size = s.size + 1 := by rw [ByteArray.size_append]; rfl
theorem zS_list (s : ByteArray) : (s ++ zS).data.toList = s.data.toList ++ [0] := by rw [ByteArray.data_append, Array.toList_append]
set_option maxHeartbeats 1000000 in
theorem pad_any (s : ByteArray) (w : World) (hs : s.size ≤ 20000) :
    Calls Tryd.prog 12 #[.string s] w fun e w' => ∃ p : ByteArray, e = .returned (.string p) ∧ p.data.toList = padT s.data.toList ∧ w' = w := by
  have hs' : (s.size : Int) ≤ 20000 := by omega
  have hl : s.data.toList.length = s.size := (Lib.size_eq s).symm
  obtain ⟨p1, h1⟩ : ∃ p, s ++ zS = p := ⟨_, rfl⟩
  obtain ⟨p2, h2⟩ : ∃ p, p1 ++ zS = p := ⟨_, rfl⟩
  obtain ⟨p3, h3⟩ : ∃ p, p2 ++ zS = p := ⟨_, rfl⟩
  have z1 : p1.size = s.size + 1 := by rw [← h1, zS_app]
  have z2 : p2.size = s.size + 2 := by rw [← h2, zS_app, z1]
  have z3 : p3.size = s.size + 3 := by rw [← h3, zS_app, z2]
  have l1 : p1.data.toList = s.data.toList ++ [0] := by rw [← h1, zS_list]
  have l2 : p2.data.toList = s.data.toList ++ [0, 0] := by rw [← h2, zS_list, l1]; simp
  have l3 : p3.data.toList = s.data.toList ++ [0, 0, 0] := by rw [← h3, zS_list, l2]; simp
  have b1 : (p1.size : Int) ≤ 20010 := by omega
  have b2 : (p2.size : Int) ≤ 20010 := by omega
  have b3 : (p3.size : Int) ≤ 20010 := by omega
  have hr : s.size % 4 = 0 ∨ s.size % 4 = 1 ∨ s.size % 4 = 2 ∨ s.size % 4 = 3 := by omega
  rcases hr with hr | hr | hr | hr
  · have e : s.data.toList = padT s.data.toList := by unfold padT; rw [hl, hr]; simp
    have m0 : (s.size : Int) % 4 = 0 := by omega
    have E := hide e
    clear z1 z2 z3 l1 l2 l3 h1 h2 h3 hl hr e
    go_enter Tryd.func12, Tryd.ntmps12
    go_wp2_with fail
    refine wp_loop_rounds 1 ?_
    rw [rounds_succ]; go_wp2_with fail
    go_ret
    exact ⟨_, rfl, E.out, rfl⟩
  · have e : p3.data.toList = padT s.data.toList := by rw [l3]; unfold padT; rw [hl, hr]; rfl
    have m0 : (s.size : Int) % 4 = 1 := by omega
    have m1 : (p1.size : Int) % 4 = 2 := by omega
    have m2 : (p2.size : Int) % 4 = 3 := by omega
    have m3 : (p3.size : Int) % 4 = 0 := by omega
    have E := hide e
    clear z1 z2 z3 l1 l2 l3 hl hr e
    go_enter Tryd.func12, Tryd.ntmps12
    go_wp2_with fail
    refine wp_loop_rounds 4 ?_
    rw [rounds_succ]; go_wp2_with fail
    rw [rounds_succ]; go_wp2_with fail
    rw [rounds_succ]; go_wp2_with fail
    rw [rounds_succ]; go_wp2_with fail
    go_ret
    exact ⟨_, rfl, E.out, rfl⟩
  · have e : p2.data.toList = padT s.data.toList := by rw [l2]; unfold padT; rw [hl, hr]; rfl
    have m0 : (s.size : Int) % 4 = 2 := by omega
    have m1 : (p1.size : Int) % 4 = 3 := by omega
    have m2 : (p2.size : Int) % 4 = 0 := by omega
    have E := hide e
    clear z1 z2 z3 l1 l2 l3 hl hr e
    go_enter Tryd.func12, Tryd.ntmps12
    go_wp2_with fail
    refine wp_loop_rounds 3 ?_
    rw [rounds_succ]; go_wp2_with fail
    rw [rounds_succ]; go_wp2_with fail
    rw [rounds_succ]; go_wp2_with fail
    go_ret
    exact ⟨_, rfl, E.out, rfl⟩
  · have e : p1.data.toList = padT s.data.toList := by rw [l1]; unfold padT; rw [hl, hr]; rfl
    have m0 : (s.size : Int) % 4 = 3 := by omega
    have m1 : (p1.size : Int) % 4 = 0 := by omega
    have E := hide e
    clear z1 z2 z3 l1 l2 l3 hl hr e
    go_enter Tryd.func12, Tryd.ntmps12
    go_wp2_with fail
    refine wp_loop_rounds 2 ?_
    rw [rounds_succ]; go_wp2_with fail
    rw [rounds_succ]; go_wp2_with fail
    go_ret
    exact ⟨_, rfl, E.out, rfl⟩
set_option maxRecDepth 8000 in
set_option maxHeartbeats 1000000 in
theorem adds_core (s t : ByteArray) (w : World) (hg : Glo8 w) (hs : s.size ≤ maxLen) (ht : t.size ≤ maxLen) :
    Calls Tryd.prog 4 #[.string s, .string t] w fun e w' => e = .returned (.bool true) ∧ Below w.heap.size w w' := by
  unfold maxLen at hs ht
  have CW := hide (wakes8_any w hg)
  have hs0 : (s.size : Int) ≤ 9223372036854775807 := by omega
  have ht0 : (t.size : Int) ≤ 9223372036854775807 := by omega
  clear hg hs ht
  by_cases hm : s.size ≤ 20000
  case neg =>
    have hm' : (20000 : Int) < (s.size : Int) := by omega
    clear hm
    go_enter Tryd.func4, Tryd.ntmps4
    go_wp2_with (go_at_call 9; refine CW.out.mono ?_; rintro e w1 ⟨rfl, h1⟩)
    go_ret
    exact ⟨rfl, h1⟩
  have hm' : ¬ (20000 : Int) < (s.size : Int) := by omega
  by_cases hm2 : t.size ≤ 20000
  case neg =>
    have hm2' : (20000 : Int) < (t.size : Int) := by omega
    clear hm2
    go_enter Tryd.func4, Tryd.ntmps4
    go_wp2_with (go_at_call 9; refine CW.out.mono ?_; rintro e w1 ⟨rfl, h1⟩)
    go_ret
    exact ⟨rfl, h1⟩
  have hm2' : ¬ (20000 : Int) < (t.size : Int) := by omega
  have CP := hide (pad_any s w hm)
  have hA := sumV_lt s.data.toList
  have hB := sumV_lt t.data.toList
  have CS := hide (fun w => sum_any s w (by omega))
  have CT := hide (fun w => sum_any t w (by omega))
  go_enter Tryd.func4, Tryd.ntmps4
  go_wp2_with fail
  refine CP.out.mono ?_
  rintro e w' ⟨p, rfl, hp, hw'⟩
  replace hw' := hw'.symm
  subst hw'
  have hpl : p.data.toList.length ≤ 20003 := by
    rw [hp]; unfold padT; rw [List.length_append, List.length_replicate, ← Lib.size_eq]; omega
  have hps : p.size ≤ 20003 := by rw [Lib.size_eq]; exact hpl
  have hps' : (p.size : Int) ≤ 20003 := by omega
  have q1 := sum_any p w (by omega)
  rw [hp, sumV_pad] at q1
  obtain ⟨pt, hpt⟩ : ∃ pt, p ++ t = pt := ⟨_, rfl⟩
  have q2 := sum_any pt w (by rw [← hpt, ByteArray.size_append]; omega)
  have e2 : sumV pt.data.toList = (sumV s.data.toList + sumV t.data.toList) % 4294967296 := by
    rw [← hpt, ByteArray.data_append, Array.toList_append, hp, sumV_adds _ _ (padT_len _), sumV_pad]
  rw [e2] at q2
  have Q1 := hide q1
  have Q2 := hide q2
  generalize sumV s.data.toList = A at hA CS Q1 Q2
  generalize sumV t.data.toList = B at hB CT Q2
  have hmod : (((A + B) % 4294967296 : Nat) : Int) = ((A : Int) + (B : Int)) % 4294967296 := by omega
  rw [hmod] at Q2
  have hA0 : (0 : Int) ≤ (A : Int) := by omega
  have hA1 : (A : Int) ≤ 4294967295 := by omega
  have hA2 : decide ((A : Int) < 4294967296) = true := by simp; omega
  have hB0 : (0 : Int) ≤ (B : Int) := by omega
  have hB1 : (B : Int) ≤ 4294967295 := by omega
  clear q1 q2 e2 hmod hp hpl hps hA hB CP
  go_wp2_with fail
  refine Q1.out.mono ?_
  rintro e w' ⟨rfl, hw'⟩
  replace hw' := hw'.symm
  subst hw'
  go_wp2_with fail
  refine (CS.out _).mono ?_
  rintro e w' ⟨rfl, hw'⟩
  replace hw' := hw'.symm
  subst hw'
  go_wp2_with fail
  refine Q2.out.mono ?_
  rintro e w' ⟨rfl, hw'⟩
  replace hw' := hw'.symm
  subst hw'
  go_wp2_with fail
  refine (CS.out _).mono ?_
  rintro e w' ⟨rfl, hw'⟩
  replace hw' := hw'.symm
  subst hw'
  go_wp2_with fail
  refine (CT.out _).mono ?_
  rintro e w' ⟨rfl, hw'⟩
  replace hw' := hw'.symm
  subst hw'
  go_wp2_with fail
  refine (CS.out _).mono ?_
  rintro e w' ⟨rfl, hw'⟩
  replace hw' := hw'.symm
  subst hw'
  go_wp2_with fail
  refine (CS.out _).mono ?_
  rintro e w' ⟨rfl, hw'⟩
  replace hw' := hw'.symm
  subst hw'
  go_wp2_with fail
  refine CW.out.mono ?_
  rintro e w1 ⟨rfl, h1⟩
  go_wp2_with fail
  go_ret
  exact ⟨rfl, h1⟩
end Go.Proofs.YtaddkdilmimcnaaDoor
