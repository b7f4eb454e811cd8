/-
  What the reference's Find and Good answer (made by c11rf.py).
-/
import Derived.Test.YthgpchjkeidilaaC11Fi
namespace Go.Proofs.Ythgpchjkeidilaa
open Go.RowKit Go.Deep
set_option linter.unusedVariables false

set_option maxRecDepth 8000 in
set_option maxHeartbeats 4000000 in
theorem rgood_any (a : Option Addr) (cs : List Ch) (len cap : Nat) (n : Int) (w : World) (hl : cs.length = len) (hm : len ≤ 1073741824) (hn : R64 n) (hL : CLst w a cs) :
    Calls Try.prog 13 #[.slice a len cap, .int .i64 n] w fun e w' => e = .returned (.bool (gooB cs n)) ∧ Below w.heap.size w w' := by
  have hm' : (len : Int) ≤ 1073741824 := by omega
  by_cases hlong : len ≤ 4096
  case neg =>
    have E := hide (gooB_long (cs := cs) (n := n) (by omega))
    have t : (4096 : Int) < (len : Int) := by omega
    go_enter Try.func13, Try.ntmps13
    go_wp2_with fail
    go_ret
    exact ⟨by rw [E.out]; rfl, Below.refl _ _⟩
  have t : ¬ (4096 : Int) < (len : Int) := by omega
  have HL := hide hL
  have HN := hide hl
  have HG := hide hn
  clear hL hl hm hn
  go_enter Try.func13, Try.ntmps13
  go_wp2_with fail
  go_loopw [5] (fun vi wr => ∃ (k : Nat), vi = .int .i64 k ∧ Hid (k ≤ len ∧ (∀ j, j < k → okB cs n j = true) ∧ Below w.heap.size w wr)) (fun vi _ => len - (intOf vi).toNat)
  case atStart => exact ⟨0, rfl, hide ⟨by omega, fun j hj => by omega, Below.refl _ _⟩⟩
  case round =>
    obtain ⟨k, rfl, HV⟩ := hrel
    obtain ⟨hk, hv, hb⟩ := HV.out
    have hk0 : (0 : Int) ≤ (k : Int) := by omega
    have HB := hide hb
    have HF := hide hv
    clear HV hv
    by_cases hlt : k < len
    case neg =>
      have hlt' : ¬ (k : Int) < (len : Int) := by omega
      have E : Hid (gooB cs n = true) := hide (gooB_iff.2 ⟨by have := HN.out; omega, fun i hi => HF.out i (by have := HN.out; omega)⟩)
      clear HF hb
      go_wp2_with fail
      go_ret
      exact ⟨by rw [E.out]; rfl, HB.out⟩
    have hlt' : (k : Int) < (len : Int) := by omega
    rcases HL.out with hz | ⟨b, o, rfl, hbl, hcell⟩
    · have := HN.out; rw [hz] at this; simp at this; omega
    obtain ⟨z0, z1, z2⟩ := hcell k (by have := HN.out; omega)
    rw [← hb.cell (p := ⟨b, _, none⟩) hbl] at z0 z1 z2
    have zb : b < wr.heap.size := Nat.lt_of_lt_of_le hbl hb.size
    have EB := hide (show okB cs n k = (fitB (cs.getD k c0) n && (decide (k = 0) || nxB (cs.getD (k - 1) c0) (cs.getD k c0))) from rfl)
    have ENO := hide (fun h => gooB_no (cs := cs) (n := n) (i := k) (by have := HN.out; omega) h)
    have EYES : Hid (okB cs n k = true → ∀ j, j < k + 1 → okB cs n j = true) := hide (fun h j hj => by
      rcases Nat.lt_or_ge j k with h' | h'
      · exact HF.out j h'
      · obtain rfl : j = k := by omega
        exact h)
    obtain ⟨x, hx⟩ : ∃ x, cs.getD k c0 = x := ⟨_, rfl⟩
    rw [hx] at z0 z1 z2 EB
    obtain ⟨f, l, g⟩ := x
    simp only at z0 z1 z2
    have HB2 := hide (HB.out.alloc HB.out.size (.cells #[.int .i64 f, .int .i64 l, .int .i64 g] 31))
    have EF : Hid (fitB ⟨f, l, g⟩ n = false → gooB cs n = false) := hide (fun h => ENO.out (by rw [EB.out, h]; rfl))
    obtain ⟨n0, n1⟩ := HG.out
    by_cases cc0 : l < f
    · have E := hide (EF.out (fitB_f.2 (by simp only; omega)))
      clear EB ENO EYES EF HF hcell hx hb n0 n1
      go_wp2_with fail
      go_ret
      exact ⟨by rw [E.out]; rfl, HB2.out⟩
    have d0 : decide (l < f) = false := by simp; omega
    by_cases cc1 : f < 0
    · have E := hide (EF.out (fitB_f.2 (by simp only; omega)))
      clear EB ENO EYES EF HF hcell hx hb n0 n1
      go_wp2_with fail
      go_ret
      exact ⟨by rw [E.out]; rfl, HB2.out⟩
    have d1 : decide (f < 0) = false := by simp; omega
    by_cases cc2 : 1114111 < l
    · have E := hide (EF.out (fitB_f.2 (by simp only; omega)))
      clear EB ENO EYES EF HF hcell hx hb n0 n1
      go_wp2_with fail
      go_ret
      exact ⟨by rw [E.out]; rfl, HB2.out⟩
    have d2 : decide (1114111 < l) = false := by simp; omega
    by_cases cc3 : f ≤ 57343
    case pos =>
      by_cases cc4 : 55296 ≤ l
      · have E := hide (EF.out (fitB_f.2 (by simp only; omega)))
        clear EB ENO EYES EF HF hcell hx hb n0 n1
        go_wp2_with fail
        go_ret
        exact ⟨by rw [E.out]; rfl, HB2.out⟩
      have d3 : decide (f ≤ 57343) = true := by simp; omega
      have d4 : decide (55296 ≤ l) = false := by simp; omega
      by_cases cc5 : g < 1
      · have E := hide (EF.out (fitB_f.2 (by simp only; omega)))
        clear EB ENO EYES EF HF hcell hx hb n0 n1
        go_wp2_with fail
        go_ret
        exact ⟨by rw [E.out]; rfl, HB2.out⟩
      have d5 : decide (g < 1) = false := by simp; omega
      by_cases cc6 : n ≤ g
      · have E := hide (EF.out (fitB_f.2 (by simp only; omega)))
        clear EB ENO EYES EF HF hcell hx hb n0 n1
        go_wp2_with fail
        go_ret
        exact ⟨by rw [E.out]; rfl, HB2.out⟩
      have d6 : decide (n ≤ g) = false := by simp; omega
      have m1 : wrap64 (l - f) = l - f := by unfold wrap64; omega
      have m2 : wrap64 (n - g) = n - g := by unfold wrap64; omega
      by_cases cc7 : n - g ≤ l - f
      · have E := hide (EF.out (fitB_f.2 (by simp only; omega)))
        clear EB ENO EYES EF HF hcell hx hb n0 n1
        go_wp2_with fail
        go_ret
        exact ⟨by rw [E.out]; rfl, HB2.out⟩
      have d7 : decide (n - g ≤ l - f) = false := by simp; omega
      have EG : Hid (fitB ⟨f, l, g⟩ n = true) := hide (fitB_t.2 (by simp only; omega))
      by_cases q0 : k = 0
      · have E := hide (EYES.out (by rw [EB.out, EG.out, decide_eq_true q0]; rfl))
        clear EB ENO EYES EF HF hcell hx hb n0 n1
        subst q0
        simp only [Nat.zero_mul, Nat.add_zero] at z0 z1 z2
        go_wp2_with fail
        go_quiet (fail)
        go_wp2_with fail
        go_roundw
        case rel => exact ⟨1, by go_num, hide ⟨by omega, E.out, below_drewN HB2.out _⟩⟩
        case measure => simp [intOf]; omega
      obtain ⟨j, hj⟩ : ∃ j, k = j + 1 := ⟨k - 1, by omega⟩
      obtain ⟨y0, y1, y2⟩ := hcell j (by have := HN.out; omega)
      have hok := HF.out j (by omega)
      unfold okB at hok
      rw [Bool.and_eq_true] at hok
      rw [show k - 1 = j by omega, decide_eq_false q0, Bool.false_or] at EB
      obtain ⟨y, hy⟩ : ∃ y, cs.getD j c0 = y := ⟨_, rfl⟩
      rw [hy] at y0 y1 y2 EB hok
      obtain ⟨f', l', g'⟩ := y
      simp only at y0 y1 y2
      have hfit := fitB_t.1 hok.1
      simp only at hfit
      obtain ⟨p0, p1, p2, _, p4, p5, p6⟩ := hfit
      have EV : Hid (okB cs n k = !(decide (f ≤ l') || goB ⟨f', l', g'⟩ f g)) := hide (by rw [EB.out, EG.out]; rfl)
      have k1 : IntKind.i64.wrap ((k : Int) - 1) = (j : Int) := by rw [IntKind.wrap_i64]; omega
      have k2 : decide ((0 : Int) < (k : Int)) = true := by simp; omega
      have k2' : (0 : Int) < (k : Int) := by omega
      have k2n : 0 < k := by omega
      have j0 : (0 : Int) ≤ (j : Int) := by omega
      have j1 : (j : Int) < (len : Int) := by omega
      have HK := hide hj
      rw [← HB2.out.cell (p := ⟨b, _, none⟩) hbl] at y0 y1 y2
      have zb1 : b < (wr.alloc (.cells #[.int .i64 f, .int .i64 l, .int .i64 g] 31)).heap.size := Nat.lt_of_lt_of_le hbl HB2.out.size
      by_cases q2 : f ≤ l'
      · have E := hide (ENO.out (by rw [EV.out, decide_eq_true q2]; rfl))
        clear EB ENO EYES EF EV HF hcell hx hb n0 n1 hy hok q0 p0 p1 p2 p4 p5 p6 hj
        go_wp2_with fail
        go_quiet (fail)
        go_wp2_with fail
        go_ret
        exact ⟨by rw [E.out]; rfl, below_drewN HB2.out _⟩
      have q2' : decide (f ≤ l') = false := by simp; omega
      have w1 : IntKind.i64.wrap (l' + 1) = l' + 1 := by rw [IntKind.wrap_i64]; omega
      by_cases q3 : f = l' + 1
      · obtain ⟨A, hA⟩ : ∃ A, IntKind.i64.wrap (g' + l') = A := ⟨_, rfl⟩
        obtain ⟨B, hBB⟩ : ∃ B, g' + l' - f' = B := ⟨_, rfl⟩
        have w2 : IntKind.i64.wrap (A - f') = B := by rw [← hA, ← hBB, IntKind.wrap_i64, IntKind.wrap_i64]; omega
        obtain ⟨C, hC⟩ : ∃ C, B + 1 = C := ⟨_, rfl⟩
        have w3 : IntKind.i64.wrap (B + 1) = C := by rw [← hC, IntKind.wrap_i64]; omega
        have q3' : (f == l' + 1) = true := by simpa using q3
        have EQ : Hid (okB cs n k = !(g == C)) := hide (by
          rw [EV.out, decide_eq_false q2, Bool.false_or]
          congr 1
          unfold goB
          rw [Bool.eq_iff_iff, decide_eq_true_iff, beq_iff_eq]
          exact ⟨fun h => by have := h.2; simp only at this; omega, fun h => ⟨q3, by simp only; omega⟩⟩)
        cases q4 : (g == C)
        · have E := hide (EYES.out (by rw [EQ.out, q4]; rfl))
          clear EB ENO EYES EF EV EQ HF hcell hx hb n0 n1 hy hok q0 p0 p1 p2 p4 p5 p6 hj q2 q3 hBB hC
          go_wp2_with fail
          go_quiet (fail)
          go_wp2_with fail
          go_roundw
          case rel => exact ⟨k + 1, by go_num, hide ⟨by omega, E.out, below_drewN HB2.out _⟩⟩
          case measure => simp [intOf]; omega
        · have E := hide (ENO.out (by rw [EQ.out, q4]; rfl))
          clear EB ENO EYES EF EV EQ HF hcell hx hb n0 n1 hy hok q0 p0 p1 p2 p4 p5 p6 hj q2 q3 hBB hC
          go_wp2_with fail
          go_quiet (fail)
          go_wp2_with fail
          go_ret
          exact ⟨by rw [E.out]; rfl, below_drewN HB2.out _⟩
      · have E := hide (EYES.out (by rw [EV.out, decide_eq_false q2, goB_f.2 (fun h => q3 h.1)]; rfl))
        have q3' : (f == l' + 1) = false := by simpa using q3
        clear EB ENO EYES EF EV HF hcell hx hb n0 n1 hy hok q0 p0 p1 p2 p4 p5 p6 hj q2 q3
        go_wp2_with fail
        go_quiet (fail)
        go_wp2_with fail
        go_roundw
        case rel => exact ⟨k + 1, by go_num, hide ⟨by omega, E.out, below_drewN HB2.out _⟩⟩
        case measure => simp [intOf]; omega
    case neg =>
      have d3 : decide (f ≤ 57343) = false := by simp; omega
      by_cases cc5 : g < 1
      · have E := hide (EF.out (fitB_f.2 (by simp only; omega)))
        clear EB ENO EYES EF HF hcell hx hb n0 n1
        go_wp2_with fail
        go_ret
        exact ⟨by rw [E.out]; rfl, HB2.out⟩
      have d5 : decide (g < 1) = false := by simp; omega
      by_cases cc6 : n ≤ g
      · have E := hide (EF.out (fitB_f.2 (by simp only; omega)))
        clear EB ENO EYES EF HF hcell hx hb n0 n1
        go_wp2_with fail
        go_ret
        exact ⟨by rw [E.out]; rfl, HB2.out⟩
      have d6 : decide (n ≤ g) = false := by simp; omega
      have m1 : wrap64 (l - f) = l - f := by unfold wrap64; omega
      have m2 : wrap64 (n - g) = n - g := by unfold wrap64; omega
      by_cases cc7 : n - g ≤ l - f
      · have E := hide (EF.out (fitB_f.2 (by simp only; omega)))
        clear EB ENO EYES EF HF hcell hx hb n0 n1
        go_wp2_with fail
        go_ret
        exact ⟨by rw [E.out]; rfl, HB2.out⟩
      have d7 : decide (n - g ≤ l - f) = false := by simp; omega
      have EG : Hid (fitB ⟨f, l, g⟩ n = true) := hide (fitB_t.2 (by simp only; omega))
      by_cases q0 : k = 0
      · have E := hide (EYES.out (by rw [EB.out, EG.out, decide_eq_true q0]; rfl))
        clear EB ENO EYES EF HF hcell hx hb n0 n1
        subst q0
        simp only [Nat.zero_mul, Nat.add_zero] at z0 z1 z2
        go_wp2_with fail
        go_quiet (fail)
        go_wp2_with fail
        go_roundw
        case rel => exact ⟨1, by go_num, hide ⟨by omega, E.out, below_drewN HB2.out _⟩⟩
        case measure => simp [intOf]; omega
      obtain ⟨j, hj⟩ : ∃ j, k = j + 1 := ⟨k - 1, by omega⟩
      obtain ⟨y0, y1, y2⟩ := hcell j (by have := HN.out; omega)
      have hok := HF.out j (by omega)
      unfold okB at hok
      rw [Bool.and_eq_true] at hok
      rw [show k - 1 = j by omega, decide_eq_false q0, Bool.false_or] at EB
      obtain ⟨y, hy⟩ : ∃ y, cs.getD j c0 = y := ⟨_, rfl⟩
      rw [hy] at y0 y1 y2 EB hok
      obtain ⟨f', l', g'⟩ := y
      simp only at y0 y1 y2
      have hfit := fitB_t.1 hok.1
      simp only at hfit
      obtain ⟨p0, p1, p2, _, p4, p5, p6⟩ := hfit
      have EV : Hid (okB cs n k = !(decide (f ≤ l') || goB ⟨f', l', g'⟩ f g)) := hide (by rw [EB.out, EG.out]; rfl)
      have k1 : IntKind.i64.wrap ((k : Int) - 1) = (j : Int) := by rw [IntKind.wrap_i64]; omega
      have k2 : decide ((0 : Int) < (k : Int)) = true := by simp; omega
      have k2' : (0 : Int) < (k : Int) := by omega
      have k2n : 0 < k := by omega
      have j0 : (0 : Int) ≤ (j : Int) := by omega
      have j1 : (j : Int) < (len : Int) := by omega
      have HK := hide hj
      rw [← HB2.out.cell (p := ⟨b, _, none⟩) hbl] at y0 y1 y2
      have zb1 : b < (wr.alloc (.cells #[.int .i64 f, .int .i64 l, .int .i64 g] 31)).heap.size := Nat.lt_of_lt_of_le hbl HB2.out.size
      by_cases q2 : f ≤ l'
      · have E := hide (ENO.out (by rw [EV.out, decide_eq_true q2]; rfl))
        clear EB ENO EYES EF EV HF hcell hx hb n0 n1 hy hok q0 p0 p1 p2 p4 p5 p6 hj
        go_wp2_with fail
        go_quiet (fail)
        go_wp2_with fail
        go_ret
        exact ⟨by rw [E.out]; rfl, below_drewN HB2.out _⟩
      have q2' : decide (f ≤ l') = false := by simp; omega
      have w1 : IntKind.i64.wrap (l' + 1) = l' + 1 := by rw [IntKind.wrap_i64]; omega
      by_cases q3 : f = l' + 1
      · obtain ⟨A, hA⟩ : ∃ A, IntKind.i64.wrap (g' + l') = A := ⟨_, rfl⟩
        obtain ⟨B, hBB⟩ : ∃ B, g' + l' - f' = B := ⟨_, rfl⟩
        have w2 : IntKind.i64.wrap (A - f') = B := by rw [← hA, ← hBB, IntKind.wrap_i64, IntKind.wrap_i64]; omega
        obtain ⟨C, hC⟩ : ∃ C, B + 1 = C := ⟨_, rfl⟩
        have w3 : IntKind.i64.wrap (B + 1) = C := by rw [← hC, IntKind.wrap_i64]; omega
        have q3' : (f == l' + 1) = true := by simpa using q3
        have EQ : Hid (okB cs n k = !(g == C)) := hide (by
          rw [EV.out, decide_eq_false q2, Bool.false_or]
          congr 1
          unfold goB
          rw [Bool.eq_iff_iff, decide_eq_true_iff, beq_iff_eq]
          exact ⟨fun h => by have := h.2; simp only at this; omega, fun h => ⟨q3, by simp only; omega⟩⟩)
        cases q4 : (g == C)
        · have E := hide (EYES.out (by rw [EQ.out, q4]; rfl))
          clear EB ENO EYES EF EV EQ HF hcell hx hb n0 n1 hy hok q0 p0 p1 p2 p4 p5 p6 hj q2 q3 hBB hC
          go_wp2_with fail
          go_quiet (fail)
          go_wp2_with fail
          go_roundw
          case rel => exact ⟨k + 1, by go_num, hide ⟨by omega, E.out, below_drewN HB2.out _⟩⟩
          case measure => simp [intOf]; omega
        · have E := hide (ENO.out (by rw [EQ.out, q4]; rfl))
          clear EB ENO EYES EF EV EQ HF hcell hx hb n0 n1 hy hok q0 p0 p1 p2 p4 p5 p6 hj q2 q3 hBB hC
          go_wp2_with fail
          go_quiet (fail)
          go_wp2_with fail
          go_ret
          exact ⟨by rw [E.out]; rfl, below_drewN HB2.out _⟩
      · have E := hide (EYES.out (by rw [EV.out, decide_eq_false q2, goB_f.2 (fun h => q3 h.1)]; rfl))
        have q3' : (f == l' + 1) = false := by simpa using q3
        clear EB ENO EYES EF EV HF hcell hx hb n0 n1 hy hok q0 p0 p1 p2 p4 p5 p6 hj q2 q3
        go_wp2_with fail
        go_quiet (fail)
        go_wp2_with fail
        go_roundw
        case rel => exact ⟨k + 1, by go_num, hide ⟨by omega, E.out, below_drewN HB2.out _⟩⟩
        case measure => simp [intOf]; omega
end Go.Proofs.Ythgpchjkeidilaa
