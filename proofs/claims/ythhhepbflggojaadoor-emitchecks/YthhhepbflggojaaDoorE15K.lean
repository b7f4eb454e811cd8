/-
  What the landed Check and the reference's answer of any marks.
-/
import Derived.Test.YthhhepbflggojaaDoorE15D
import Derived.Test.YthhhepbflggojaaDoorE15R
namespace Go.Proofs.YthhhepbflggojaaDoor.E15
open Go.RowKit Go.Deep
set_option linter.unusedVariables false
set_option linter.unusedSimpArgs false
set_option maxRecDepth 8000

theorem MLst.some {w : World} {a : Option Addr} {ms : List Mk} (h : MLst w a ms) {k : Nat} (hk : k < ms.length) : ∃ b off, a = some ⟨b, off, none⟩ ∧ b < w.heap.size ∧ ∃ ga gc, MAt w b (off + k * 10) (ms.getD k m0) ga gc := by
  rcases h with h | ⟨b, off, h1, h2, h3⟩
  · rw [h] at hk; simp at hk
  · exact ⟨b, off, h1, h2, h3 k hk⟩
theorem gd_mem {ms : List Mk} {k : Nat} (h : k < ms.length) : ms.getD k m0 ∈ ms := by
  rw [List.getD_eq_getElem?_getD, List.getElem?_eq_getElem h]; exact List.getElem_mem h
set_option maxHeartbeats 4000000 in
theorem check_core (a : Option Addr) (n c : Nat) (ms : List Mk) (V : Int) (w : World) (hn : ms.length = n) (h1 : n ≤ 8192) (hg : ∀ m ∈ ms, m.gs.length ≤ 1048576) (hL : MLst w a ms) (hV : (if chk ms 0 then (0 : Int) else 150) = V) :
    Calls Tryd.prog 8 #[.slice a n c] w fun e w' => e = .returned (.int .i64 V) ∧ Below w.heap.size w w' := by
  have h5 : (n : Int) ≤ 8192 := by omega
  have h5x : ¬ (8192 : Int) < (n : Int) := by omega
  have h5d : decide ((8192 : Int) < (n : Int)) = false := decide_eq_false h5x
  have Hn := hide hn
  have HG := hide hg
  have HL := hide hL
  have HV := hide hV
  clear hn hg hL hV h1
  go_enter Tryd.func8, Tryd.ntmps8
  go_wp2_with fail
  go_loopw [3, 11] (fun vo vi wr => ∃ (k : Nat) (o : Int), vo = .int .i64 o ∧ vi = .int .i64 k ∧ Hid (k ≤ n ∧ Below w.heap.size w wr ∧ 0 ≤ o ∧ o ≤ 32 ∧ (if chk (ms.drop k) o then (0 : Int) else 150) = V)) (fun _ vi _ => n - (intOf vi).toNat)
  case atStart => exact ⟨0, 0, rfl, rfl, hide ⟨by omega, Below.refl _ _, by omega, by omega, by rw [List.drop_zero]; exact HV.out⟩⟩
  case round =>
    clear HV
    obtain ⟨k, o, rfl, rfl, HR⟩ := hrel
    obtain ⟨hk, hb, ho0, ho1, hV⟩ := HR.out
    have hk0 : (0 : Int) ≤ (k : Int) := by omega
    clear HR
    by_cases hlt : k < n
    case neg =>
      have hlt' : ¬ (k : Int) < (n : Int) := by omega
      rw [List.drop_eq_nil_of_le (by rw [Hn.out]; omega), chk] at hV
      have HB := hide hb
      by_cases hz : o = 0
      · subst hz
        obtain rfl : (0 : Int) = V := by simpa using hV
        clear hV hb
        go_wp2_with fail
        go_ret
        exact ⟨rfl, HB.out⟩
      · have hzd : (o == 0) = false := by simpa using hz
        have hzn : (o != 0) = true := by simpa using hz
        rw [hzd] at hV
        obtain rfl : (150 : Int) = V := by simpa using hV
        clear hV hb
        go_wp2_with fail
        go_ret
        exact ⟨rfl, HB.out⟩
    have hlt' : (k : Int) < (n : Int) := by omega
    have hl := Hn.out
    rw [drop_ms ms k (by omega), chk] at hV
    have hgs := HG.out _ (gd_mem (show k < ms.length by omega))
    obtain ⟨b, off, rfl, hbl, ga, gc, hM⟩ := (HL.out.below hb).some (show k < ms.length by omega)
    generalize ms.getD k m0 = m at *
    have C := hide (fun (u : World) (hu : Below wr.heap.size wr u) => may_any m ga m.gs.length gc u rfl hgs (hM.lst.below hu))
    have HM := hide (fun (u : World) (hu : Below wr.heap.size wr u) => hM.below hbl hu)
    obtain ⟨c0, c1, c2, c3, c4, c5, c6, c7, c8, c9, _⟩ := hM
    obtain ⟨K, f, s, x, y, gs, r0, r1, r2, r3⟩ := m
    simp only [mcs] at *
    generalize gs.length = gn at *
    generalize oneB ⟨K, f, s, x, y, gs, r0, r1, r2, r3⟩ = O at *
    have HB := hide hb
    have HVV := hide hV
    have hal := hide ((Below.refl wr.heap.size wr).alloc (Nat.le_refl _) (.cells #[.int .i64 K, .int .i64 f, .int .i64 s, .int .i64 x, .int .i64 y, .slice ga gn gc, .int .i64 r0, .int .i64 r1, .int .i64 r2, .int .i64 r3] 38))
    have kn := hide (Blk.new wr #[.int .i64 K, .int .i64 f, .int .i64 s, .int .i64 x, .int .i64 y, .slice ga gn gc, .int .i64 r0, .int .i64 r1, .int .i64 r2, .int .i64 r3] 38)
    clear hV hb hgs hl
    cases O
    · have hV := HVV.out
      simp only [Bool.false_and] at hV
      obtain rfl : (150 : Int) = V := by simpa using hV
      clear hV HVV HM
      go_wp2_with fail
      refine (C.out _ hal.out).mono ?_
      rintro e w3 ⟨rfl, h3⟩
      have HB3 := hide (below_t5 (below_t5 HB.out hal.out) h3)
      clear h3 c0 c1 c2 c3 c4 c5 c6 c7 c8 c9
      go_wp2_with fail
      go_ret
      exact ⟨rfl, HB3.out⟩
    have hV := HVV.out
    simp only [Bool.true_and] at hV
    clear HVV
    by_cases g3 : K = 3
    · subst g3
      have hd : dk 3 = 1 := rfl
      rw [hd] at hV
      by_cases hq : o + 1 ≤ 32
      rotate_left
      · rw [show decide (o + 1 ≤ 32) = false from decide_eq_false hq] at hV
        simp only [Bool.false_and, Bool.and_false] at hV
        obtain rfl : (150 : Int) = V := by simpa using hV
        have q0 : ¬ o + 1 < 0 := by omega
        have q1 : (32 : Int) < o + 1 := by omega
        have q0d : decide (o + 1 < 0) = false := decide_eq_false q0
        have q1d : decide ((32 : Int) < o + 1) = true := decide_eq_true q1
        clear hV
        go_wp2_with fail
        refine (C.out _ hal.out).mono ?_
        rintro e w3 ⟨rfl, h3⟩
        have HB3 := hide (below_t5 (below_t5 HB.out hal.out) h3)
        have k3 := kn.out.below h3
        have e0 := k3.cell 0
        have xlt := k3.lt
        simp at e0
        clear h3 k3 kn c0 c1 c2 c3 c4 c5 c6 c7 c8 c9
        go_wp2_with fail
        go_ret
        exact ⟨rfl, HB3.out⟩
      rw [show decide (o + 1 ≤ 32) = true from decide_eq_true hq, show decide (0 ≤ o + 1) = true from decide_eq_true (by omega)] at hV
      simp only [Bool.true_and] at hV
      have HVV := hide hV
      have q0 : ¬ o + 1 < 0 := by omega
      have q1 : ¬ (32 : Int) < o + 1 := by omega
      have q0d : decide (o + 1 < 0) = false := decide_eq_false q0
      have q1d : decide ((32 : Int) < o + 1) = false := decide_eq_false q1
      clear hV
      go_wp2_with fail
      refine (C.out _ hal.out).mono ?_
      rintro e w3 ⟨rfl, h3⟩
      have HB3 := hide (below_t5 (below_t5 HB.out hal.out) h3)
      have k3 := kn.out.below h3
      have e0 := k3.cell 0
      have xlt := k3.lt
      simp at e0
      clear h3 k3 kn c0 c1 c2 c3 c4 c5 c6 c7 c8 c9
      go_wp2_with fail
      go_roundw
      case rel => exact ⟨k + 1, o + 1, by go_num, by go_num, hide ⟨by omega, HB3.out, by omega, by omega, HVV.out⟩⟩
      case measure => simp [intOf]; omega
    have g3d : (K == 3) = false := by simpa using g3
    by_cases g4 : K = 4
    · subst g4
      have hd : dk 4 = -1 := rfl
      rw [hd, show o + -1 = o - 1 by omega] at hV
      by_cases hq : 0 ≤ o - 1
      rotate_left
      · rw [show decide (0 ≤ o - 1) = false from decide_eq_false hq] at hV
        simp only [Bool.false_and, Bool.and_false] at hV
        obtain rfl : (150 : Int) = V := by simpa using hV
        have q0 : o - 1 < 0 := by omega
        have q0d : decide (o - 1 < 0) = true := decide_eq_true q0
        clear hV
        go_wp2_with fail
        refine (C.out _ hal.out).mono ?_
        rintro e w3 ⟨rfl, h3⟩
        have HB3 := hide (below_t5 (below_t5 HB.out hal.out) h3)
        have k3 := kn.out.below h3
        have e0 := k3.cell 0
        have xlt := k3.lt
        simp at e0
        clear h3 k3 kn c0 c1 c2 c3 c4 c5 c6 c7 c8 c9
        go_wp2_with fail
        go_ret
        exact ⟨rfl, HB3.out⟩
      rw [show decide (0 ≤ o - 1) = true from decide_eq_true hq, show decide (o - 1 ≤ 32) = true from decide_eq_true (by omega)] at hV
      simp only [Bool.true_and] at hV
      have HVV := hide hV
      have q0 : ¬ o - 1 < 0 := by omega
      have q1 : ¬ (32 : Int) < o - 1 := by omega
      have q0d : decide (o - 1 < 0) = false := decide_eq_false q0
      have q1d : decide ((32 : Int) < o - 1) = false := decide_eq_false q1
      clear hV
      go_wp2_with fail
      refine (C.out _ hal.out).mono ?_
      rintro e w3 ⟨rfl, h3⟩
      have HB3 := hide (below_t5 (below_t5 HB.out hal.out) h3)
      have k3 := kn.out.below h3
      have e0 := k3.cell 0
      have xlt := k3.lt
      simp at e0
      clear h3 k3 kn c0 c1 c2 c3 c4 c5 c6 c7 c8 c9
      go_wp2_with fail
      go_roundw
      case rel => exact ⟨k + 1, o - 1, by go_num, by go_num, hide ⟨by omega, HB3.out, by omega, by omega, HVV.out⟩⟩
      case measure => simp [intOf]; omega
    have g4d : (K == 4) = false := by simpa using g4
    have hd : dk K = 0 := by unfold dk; rw [if_neg g3, if_neg g4]
    rw [hd, show o + 0 = o by omega, show decide (0 ≤ o) = true from decide_eq_true ho0, show decide (o ≤ 32) = true from decide_eq_true ho1] at hV
    simp only [Bool.true_and] at hV
    have HVV := hide hV
    have q0 : ¬ o < 0 := by omega
    have q1 : ¬ (32 : Int) < o := by omega
    have q0d : decide (o < 0) = false := decide_eq_false q0
    have q1d : decide ((32 : Int) < o) = false := decide_eq_false q1
    clear hV hd g3 g4
    go_wp2_with fail
    refine (C.out _ hal.out).mono ?_
    rintro e w3 ⟨rfl, h3⟩
    have HB3 := hide (below_t5 (below_t5 HB.out hal.out) h3)
    have k3 := kn.out.below h3
    have e0 := k3.cell 0
    have xlt := k3.lt
    simp at e0
    clear h3 k3 kn c0 c1 c2 c3 c4 c5 c6 c7 c8 c9
    go_wp2_with fail
    go_roundw
    case rel => exact ⟨k + 1, o, rfl, by go_num, hide ⟨by omega, HB3.out, by omega, by omega, HVV.out⟩⟩
    case measure => simp [intOf]; omega
theorem check_any (a : Option Addr) (n c : Nat) (ms : List Mk) (w : World) (hn : ms.length = n) (h1 : n ≤ 1000000) (hg : ∀ m ∈ ms, m.gs.length ≤ 1048576) (hL : MLst w a ms) :
    Calls Tryd.prog 8 #[.slice a n c] w fun e w' => e = .returned (.int .i64 (chkV ms)) ∧ Below w.heap.size w w' := by
  unfold chkV chkB
  by_cases h : n ≤ 8192
  · rw [show decide (ms.length ≤ 8192) = true from decide_eq_true (by omega), Bool.true_and]
    exact check_core a n c ms _ w hn h hg hL rfl
  · rw [show decide (ms.length ≤ 8192) = false from decide_eq_false (by omega), Bool.false_and]
    have h5 : (n : Int) ≤ 1000000 := by omega
    have h5x : (8192 : Int) < (n : Int) := by omega
    have h5d : decide ((8192 : Int) < (n : Int)) = true := decide_eq_true h5x
    clear hn hg hL h1 h
    go_enter Tryd.func8, Tryd.ntmps8
    go_wp2_with fail
    go_ret
    exact ⟨rfl, Below.refl _ _⟩
end Go.Proofs.YthhhepbflggojaaDoor.E15
