/-
  What the reference's Find and Good answer (made by c11rf.py).
-/
import Derived.Test.YtkmmphpaaahajaaC11Fi
namespace Go.Proofs.Ytkmmphpaaahajaa
open Go.RowKit Go.Deep
set_option linter.unusedVariables false

set_option maxRecDepth 8000 in
set_option maxHeartbeats 2000000 in
theorem rfind_any (a : Option Addr) (cs : List Ch) (len cap : Nat) (c : Int) (w : World) (hl : cs.length = len) (hm : len ≤ 1073741824) (hc : R64 c) (hr : ∀ i, i < cs.length → RC (cs.getD i c0)) (hL : CLst w a cs) :
    Calls Try.prog 13 #[.slice a len cap, .int .i64 c] w fun e w' => e = .returned (.int .i64 (finV cs c)) ∧ w' = w := by
  have hm' : (len : Int) ≤ 1073741824 := by omega
  have HL := hide hL
  have HN := hide hl
  have HR := hide hr
  have HC := hide hc
  clear hL hl hm hr hc
  go_enter Try.func13, Try.ntmps13
  go_wp2_with fail
  go_loop [5] (fun vi => ∃ (k : Nat), vi = .int .i64 k ∧ Hid (k ≤ len ∧ finV cs c = finV (cs.drop k) c)) (fun vi => len - (intOf vi).toNat)
  case atStart => exact ⟨0, rfl, hide ⟨by omega, rfl⟩⟩
  case round =>
    obtain ⟨k, rfl, HV⟩ := hrel
    obtain ⟨hk, hv⟩ := HV.out
    have hk0 : (0 : Int) ≤ (k : Int) := by omega
    have HF := hide hv
    clear HV hv
    by_cases hlt : k < len
    case neg =>
      have hlt' : ¬ (k : Int) < (len : Int) := by omega
      have E : Hid (finV cs c = 0) := hide (by rw [HF.out, List.drop_eq_nil_of_le (by have := HN.out; omega)]; rfl)
      clear HF
      go_wp2_with fail
      go_ret
      exact ⟨by rw [E.out]; rfl, rfl⟩
    have hlt' : (k : Int) < (len : Int) := by omega
    rcases HL.out with hz | ⟨b, o, rfl, hbl, hcell⟩
    · have := HN.out; rw [hz] at this; simp at this; omega
    obtain ⟨z0, z1, z2⟩ := hcell k (by have := HN.out; omega)
    have HD := hide (HF.out.trans (by rw [dropC cs k (by have := HN.out; omega), finV_cons]))
    obtain ⟨⟨rf0, rf1⟩, ⟨rl0, rl1⟩, rg0, rg1⟩ := HR.out k (by have := HN.out; omega)
    obtain ⟨rc0, rc1⟩ := HC.out
    obtain ⟨x, hx⟩ : ∃ x, cs.getD k c0 = x := ⟨_, rfl⟩
    rw [hx] at z0 z1 z2 HD rf0 rf1 rl0 rl1 rg0 rg1
    clear hx hcell
    obtain ⟨f, l, g⟩ := x
    simp only at z0 z1 z2 rf0 rf1 rl0 rl1 rg0 rg1
    by_cases q1 : c < f
    · have E : Hid (finV cs c = finV (cs.drop (k + 1)) c) := hide (by rw [HD.out, if_neg]; simp [hit]; omega)
      have q1' : decide (f ≤ c) = false := by simp; omega
      clear HD HF rf0 rf1 rl0 rl1 rg0 rg1 rc0 rc1 q1
      go_wp2_with fail
      go_round
      case rel => exact ⟨k + 1, by go_num, hide ⟨by omega, E.out⟩⟩
      case measure => simp [intOf]; omega
    have q1' : decide (f ≤ c) = true := by simp; omega
    by_cases q2 : l < c
    · have E : Hid (finV cs c = finV (cs.drop (k + 1)) c) := hide (by rw [HD.out, if_neg]; simp [hit]; omega)
      have q2' : decide (c ≤ l) = false := by simp; omega
      clear HD HF rf0 rf1 rl0 rl1 rg0 rg1 rc0 rc1 q1 q2
      go_wp2_with fail
      go_round
      case rel => exact ⟨k + 1, by go_num, hide ⟨by omega, E.out⟩⟩
      case measure => simp [intOf]; omega
    have q2' : decide (c ≤ l) = true := by simp; omega
    have E0 := hide (show finV cs c = hitV ⟨f, l, g⟩ c by rw [HD.out, if_pos]; simp [hit]; omega)
    obtain ⟨CU, u1⟩ : ∃ y, IntKind.u64.wrap c = y := ⟨_, rfl⟩
    obtain ⟨FU, u2⟩ : ∃ y, IntKind.u64.wrap f = y := ⟨_, rfl⟩
    obtain ⟨d, hd⟩ : ∃ y, c - f = y := ⟨_, rfl⟩
    have d0 : 0 ≤ d := by omega
    have d1 : d ≤ 18446744073709551615 := by omega
    have u3 : IntKind.u64.wrap (CU - FU) = d := by rw [← u1, ← u2, ← hd]; rw [wrap_u64, wrap_u64, wrap_u64]; omega
    have EV : Hid (hitV ⟨f, l, g⟩ c = if 1 ≤ g + d ∧ g + d ≤ 4095 then g + d else 0) := hide (by unfold hitV; simp only; rw [show g + c - f = g + d by omega])
    clear HD HF q1 q2 rf0 rf1 rl0 rl1 rc0 rc1
    by_cases q3 : 4095 < g
    · have E : Hid (finV cs c = 0) := hide (by rw [E0.out, EV.out, if_neg (by omega)])
      clear E0 EV rg0 rg1 hd
      go_wp2_with fail
      go_ret
      exact ⟨by rw [E.out]; rfl, rfl⟩
    have q3' : ¬ 4095 < g := q3
    by_cases q4 : g < 0
    · obtain ⟨m, hm⟩ : ∃ y, -g = y := ⟨_, rfl⟩
      obtain ⟨m1, hm1⟩ : ∃ y, -(g + 1) = y := ⟨_, rfl⟩
      have u4 : IntKind.u64.wrap m1 = m1 := by rw [wrap_u64]; omega
      have u4' : IntKind.u64.wrap (-(g + 1)) = m1 := by rw [hm1]; exact u4
      have u5 : IntKind.u64.wrap (m1 + 1) = m := by rw [wrap_u64]; omega
      have g1 : wrap64 (g + 1) = g + 1 := by unfold wrap64; omega
      have g2 : wrap64 (-(g + 1)) = -(g + 1) := by unfold wrap64; omega
      have gx : max g 0 = 0 := by omega
      by_cases q5 : d < m
      · have E : Hid (finV cs c = 0) := hide (by rw [E0.out, EV.out, if_neg (by omega)])
        clear E0 EV rg1 hd hm hm1 q3
        go_wp2_with fail
        go_ret
        exact ⟨by rw [E.out]; rfl, rfl⟩
      have q5' : decide (d < m) = false := by simp; omega
      obtain ⟨v, hv⟩ : ∃ y, d - m = y := ⟨_, rfl⟩
      have u6 : IntKind.u64.wrap (d - m) = v := by rw [wrap_u64]; omega
      by_cases q6 : 4095 < v
      · have E : Hid (finV cs c = 0) := hide (by rw [E0.out, EV.out, if_neg (by omega)])
        clear E0 EV rg1 hd hm hm1 q3 q5 hv
        go_wp2_with fail
        go_ret
        exact ⟨by rw [E.out]; rfl, rfl⟩
      have q6' : decide (4095 < v) = false := by simp; omega
      have v0 : 0 ≤ v := by omega
      have u7 : IntKind.i64.wrap v = v := by rw [IntKind.wrap_i64]; omega
      by_cases q7 : v < 1
      · have E : Hid (finV cs c = 0) := hide (by rw [E0.out, EV.out, if_neg (by omega)])
        clear E0 EV rg1 hd hm hm1 q3 q5 hv
        go_wp2_with fail
        go_ret
        exact ⟨by rw [E.out]; rfl, rfl⟩
      have q7' : decide (v < 1) = false := by simp; omega
      have E : Hid (finV cs c = v) := hide (by rw [E0.out, EV.out, if_pos (by omega)]; omega)
      clear E0 EV rg1 hd hm hm1 q3 q5 hv q7
      go_wp2_with fail
      go_ret
      exact ⟨by rw [E.out]; rfl, rfl⟩
    · have q4' : ¬ g < 0 := q4
      have gx : max g 0 = g := by omega
      have u6 : IntKind.u64.wrap (d - 0) = d := by rw [wrap_u64]; omega
      have u6' : IntKind.u64.wrap d = d := by rw [wrap_u64]; omega
      have q5' : decide (d < 0) = false := by simp; omega
      by_cases q6 : 4095 < d
      · have E : Hid (finV cs c = 0) := hide (by rw [E0.out, EV.out, if_neg (by omega)])
        clear E0 EV rg1 hd q3
        go_wp2_with fail
        go_ret
        exact ⟨by rw [E.out]; rfl, rfl⟩
      have q6' : decide (4095 < d) = false := by simp; omega
      have u7 : IntKind.i64.wrap d = d := by rw [IntKind.wrap_i64]; omega
      have d2 : d ≤ 4095 := by omega
      have g2 : g ≤ 4095 := by omega
      have g3 : 0 ≤ g := by omega
      by_cases q7 : d + g < 1
      · have E : Hid (finV cs c = 0) := hide (by rw [E0.out, EV.out, if_neg (by omega)])
        clear E0 EV rg1 hd q3 q4
        go_wp2_with fail
        go_ret
        exact ⟨by rw [E.out]; rfl, rfl⟩
      have q7' : decide (d + g < 1) = false := by simp; omega
      by_cases q8 : 4095 < d + g
      · have E : Hid (finV cs c = 0) := hide (by rw [E0.out, EV.out, if_neg (by omega)])
        clear E0 EV rg1 hd q3 q4 q7
        go_wp2_with fail
        go_ret
        exact ⟨by rw [E.out]; rfl, rfl⟩
      have q8' : decide (4095 < d + g) = false := by simp; omega
      have E : Hid (finV cs c = d + g) := hide (by rw [E0.out, EV.out, if_pos (by omega)]; omega)
      clear E0 EV rg1 hd q3 q4 q7 q8
      go_wp2_with fail
      go_ret
      exact ⟨by rw [E.out]; rfl, rfl⟩
end Go.Proofs.Ytkmmphpaaahajaa
