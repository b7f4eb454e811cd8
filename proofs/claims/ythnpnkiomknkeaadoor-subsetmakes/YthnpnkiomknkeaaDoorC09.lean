/-
  Joined: G10Rf.
-/
import Derived.Deep.LoopGhost
import Derived.WalkMore
import Derived.Test.YthnpnkiomknkeaaDoorC07
namespace Go.Proofs.YthnpnkiomknkeaaDoor.G10
open Go.RowKit Go.Deep
set_option linter.unusedVariables false
def lastV (l : List UInt8) (k : Nat) : Int := if k = 0 then -1 else ((n2 l (8 + 2 * k) : Nat) : Int)
theorem lastV_bd (l : List UInt8) (k : Nat) : -1 ≤ lastV l k ∧ lastV l k ≤ 65535 := by
  have := n2_lt l (8 + 2 * k)
  unfold lastV; split <;> omega
def ptsB (l : List UInt8) (N c : Nat) : Bool := decide (10 + 2 * c ≤ N) && riseB l c
def PtR (b : Nat) (w : World) (s : ByteArray) (c : Nat) (e : Ending) (w' : World) : Prop :=
  if ptsB s.data.toList s.size c = true then e = .returned (.int .i64 (((n2 s.data.toList (8 + 2 * c) + 1 : Nat)) : Int)) ∧ But b w w' ∧ RA w' b s (10 + 2 * c) else e = thrown ∧ But b w w'
set_option maxRecDepth 8000 in
set_option maxHeartbeats 1000000 in
theorem pts_any (b : Nat) (s : ByteArray) (c : Nat) (w : World) (h : RA w b s 10) (hs : s.size ≤ 1000000) (hc : 1 ≤ c) (hc2 : c ≤ 32767) (hN : 10 ≤ s.size) :
    Calls Tryd.prog 68 #[.pointer (some ⟨b, 0, none⟩), .int .i64 (c : Int)] w (PtR b w s c) := by
  have CT := hide must_t
  have CF := hide must_f
  have CO := hide (fun a w' (h' : RA w' b s a) (h2 : a + 2 ≤ s.size) => rnum_ok b s a w' h' hs h2)
  have CB := hide (fun a w' (h' : RA w' b s a) (h1 : a ≤ s.size) (h2 : ¬ a + 2 ≤ s.size) => rnum_bad b s a w' h' hs h1 h2)
  have H0 := hide h
  have HC := hide (show 1 ≤ c ∧ c ≤ 32767 from ⟨hc, hc2⟩)
  have HN := hide hN
  have hc3 : (c : Int) ≤ 32767 := by omega
  clear h hs hc hc2 hN
  go_enter Tryd.func68, Tryd.ntmps68
  go_wp2_with fail
  go_loopw [5, 8] (fun v i wr => ∃ k : Nat, i = .int .i64 (k : Int) ∧ v = .int .i64 (lastV s.data.toList k) ∧ Hid (k ≤ c ∧ 10 + 2 * k ≤ s.size ∧ (∀ j, j + 1 < k → n2 s.data.toList (10 + 2 * j) < n2 s.data.toList (12 + 2 * j)) ∧ But b w wr ∧ RA wr b s (10 + 2 * k))) (fun _ i _ => c - (intOf i).toNat)
  case atStart => exact ⟨0, rfl, rfl, hide ⟨by omega, HN.out, fun j hj => by omega, But.refl _ _, H0.out⟩⟩
  case round =>
    obtain ⟨k, rfl, rfl, HV⟩ := hrel
    obtain ⟨k1, k2, k3, k4, k5⟩ := HV.out
    have hk0 : (0 : Int) ≤ (k : Int) := by omega
    have K3 := hide k3
    have K4 := hide k4
    have K5 := hide k5
    clear HV k3 k4 k5 H0
    have lb := lastV_bd s.data.toList k
    by_cases hlt : k < c
    · have hlt' : (k : Int) < (c : Int) := by omega
      by_cases h2 : 10 + 2 * k + 2 ≤ s.size
      · have C := hide (CO.out _ _ K5.out h2)
        have hn := n2_lt s.data.toList (10 + 2 * k)
        by_cases hr : lastV s.data.toList k < ((n2 s.data.toList (10 + 2 * k) : Nat) : Int)
        · have hr' : decide (lastV s.data.toList k < ((n2 s.data.toList (10 + 2 * k) : Nat) : Int)) = true := by simpa using hr
          have HL := hide (show lastV s.data.toList (k + 1) = ((n2 s.data.toList (10 + 2 * k) : Nat) : Int) by unfold lastV; rw [if_neg (by omega), show 8 + 2 * (k + 1) = 10 + 2 * k by omega])
          have K6 : Hid (∀ j, j + 1 < k + 1 → n2 s.data.toList (10 + 2 * j) < n2 s.data.toList (12 + 2 * j)) := hide fun j hj => by
            by_cases e : j + 1 < k
            · exact K3.out j e
            · obtain rfl : k = j + 1 := by omega
              have hq := hr
              unfold lastV at hq
              rw [if_neg (by omega)] at hq
              have : 8 + 2 * (j + 1) = 10 + 2 * j := by omega
              rw [this] at hq
              have : 10 + 2 * (j + 1) = 12 + 2 * j := by omega
              rw [this] at hq
              omega
          generalize lastV s.data.toList k = L at hr hr' lb
          generalize ((n2 s.data.toList (10 + 2 * k) : Nat) : Int) = X at C hr hr' HL
          clear hn K3
          go_wp2_with fail
          refine C.out.mono ?_
          rintro e w1 ⟨rfl, h1, h3⟩
          have H1 := hide (K4.out.trans h1)
          have H2 := hide h3
          clear h1 h3
          go_wp2_with (go_at_call 67; refine (CT.out _).mono ?_; rintro e wy ⟨rfl, hy⟩; subst wy)
          go_roundw
          case rel => exact ⟨k + 1, by go_num, by rw [HL.out], hide ⟨by omega, by omega, K6.out, H1.out, H2.out⟩⟩
          case measure => simp [intOf]; omega
        · have hr' : decide (lastV s.data.toList k < ((n2 s.data.toList (10 + 2 * k) : Nat) : Int)) = false := by simpa using hr
          have HF : Hid (ptsB s.data.toList s.size c = false) := hide (by
            cases e : ptsB s.data.toList s.size c with
            | false => rfl
            | true =>
              exfalso
              unfold ptsB at e
              rw [Bool.and_eq_true, rise_iff] at e
              unfold lastV at hr
              split at hr
              · omega
              · obtain ⟨j, rfl⟩ : ∃ j, k = j + 1 := ⟨k - 1, by omega⟩
                have := e.2 j (by omega)
                have e1 : 8 + 2 * (j + 1) = 10 + 2 * j := by omega
                have e2 : 10 + 2 * (j + 1) = 12 + 2 * j := by omega
                rw [e1, e2] at hr
                omega)
          generalize lastV s.data.toList k = L at hr hr' lb
          generalize ((n2 s.data.toList (10 + 2 * k) : Nat) : Int) = X at C hr hr'
          clear hn K3
          go_wp2_with fail
          refine C.out.mono ?_
          rintro e w1 ⟨rfl, h1, h3⟩
          have H1 := hide (K4.out.trans h1)
          clear h1 h3
          go_wp2_with (go_at_call 67; refine (CF.out _).mono ?_; rintro e wy ⟨rfl, hy⟩; subst wy)
          refine ⟨rfl, ?_⟩
          unfold PtR
          rw [HF.out]
          exact ⟨rfl, H1.out⟩
      · have C := hide (CB.out _ _ K5.out k2 h2)
        have HF : Hid (ptsB s.data.toList s.size c = false) := hide (by
          unfold ptsB
          rw [show decide (10 + 2 * c ≤ s.size) = false by simp; omega]
          rfl)
        clear K3
        go_wp2_with fail
        refine C.out.mono ?_
        rintro e w1 ⟨rfl, h1⟩
        refine ⟨rfl, ?_⟩
        unfold PtR
        rw [HF.out]
        exact ⟨rfl, K4.out.trans h1⟩
    · obtain rfl : k = c := by omega
      have hlt' : ¬ (k : Int) < (k : Int) := by omega
      have HF : Hid (ptsB s.data.toList s.size k = true) := hide (by
        unfold ptsB
        rw [Bool.and_eq_true, rise_iff]
        exact ⟨by simpa using k2, K3.out⟩)
      have HL := hide (show lastV s.data.toList k + 1 = (((n2 s.data.toList (8 + 2 * k) + 1 : Nat)) : Int) by have := HC.out; unfold lastV; rw [if_neg (by omega)]; omega)
      generalize lastV s.data.toList k = L at HL lb
      clear K3 hlt
      go_wp2_with fail
      go_ret
      unfold PtR
      rw [HF.out]
      exact ⟨by rw [← HL.out]; rfl, K4.out, K5.out⟩
theorem flg_step {l : List UInt8} {N m left a z f r q : Nat} (h : left ≠ 0) (hv : flaV l N a = some (f, r, q)) :
    (r + 1 ≤ left → flg l N (m + 1) left a z = flg l N m (left - (r + 1)) q (z + (r + 1) * wxy f)) ∧ (¬ r + 1 ≤ left → flg l N (m + 1) left a z = none) ∧ f ≤ 255 ∧ r ≤ 255 ∧ q ≤ N ∧ a ≤ q := by
  unfold flaV at hv
  split at hv
  · rename_i ha
    split at hv
    · rename_i h8
      split at hv
      · rename_i h1
        injection hv with hv; injection hv with e1 e2; injection e2 with e2 e3
        subst e1; subst e2; subst e3
        have b1 := bt_lt l a
        have b2 := bt_lt l (a + 1)
        exact ⟨fun hk => flg_many l N m left a z h h8 h1 hk, fun hk => flg_over l N _ left a z h h8 hk, by omega, by omega, by omega, by omega⟩
      · cases hv
    · rename_i h8
      injection hv with hv; injection hv with e1 e2; injection e2 with e2 e3
      subst e1; subst e2; subst e3
      have b1 := bt_lt l a
      refine ⟨fun hk => ?_, fun hk => absurd hk (by omega), by omega, by omega, by omega, by omega⟩
      rw [flg_one l N m left a z h ha (by simpa using h8)]
      simp
  · cases hv
theorem flg_no {l : List UInt8} {N m left a z : Nat} (h : left ≠ 0) (hv : flaV l N a = none) : flg l N m left a z = none := by
  unfold flaV at hv
  split at hv
  · split at hv
    · rename_i h8
      split at hv
      · cases hv
      · rename_i h1; exact flg_short l N m left a z h h8 h1
    · cases hv
  · rename_i ha; exact flg_end l N m left a z h ha
def FgR (b : Nat) (w : World) (s : ByteArray) (R : Option (Nat × Nat)) (e : Ending) (w' : World) : Prop := match R with
  | some (q, z) => e = .returned (.int .i64 (z : Int)) ∧ But b w w' ∧ RA w' b s q
  | none => e = thrown ∧ But b w w'
set_option maxRecDepth 8000 in
set_option maxHeartbeats 2000000 in
theorem flags_any (b : Nat) (s : ByteArray) (left a : Nat) (w : World) (h : RA w b s a) (hs : s.size ≤ 1000000) (ha : a ≤ s.size) (hl : left ≤ 65536) :
    Calls Tryd.prog 70 #[.pointer (some ⟨b, 0, none⟩), .int .i64 (left : Int)] w (FgR b w s (flg s.data.toList s.size left left a 0)) := by
  obtain ⟨R, hR⟩ : ∃ R, flg s.data.toList s.size left left a 0 = R := ⟨_, rfl⟩
  rw [hR]
  have CT := hide must_t
  have CF := hide must_f
  have CL := hide (fun a w' (h' : RA w' b s a) (h1 : a ≤ s.size) => flag_any b s a w' h' hs h1)
  have CW := hide (fun (f o n : Nat) (w : World) (h1 : f ≤ 65535) (h2 : o ≤ 65535) (h3 : n ≤ 65535) => width_any f o n w h1 h2 h3)
  have H0 := hide h
  have HR := hide hR
  have HA := hide ha
  have HL := hide hl
  clear h hs ha hl hR
  go_enter Tryd.func70, Tryd.ntmps70
  go_wp2_with fail
  go_step3
  go_wp2_with fail
  go_step3
  go_wp2_with fail
  go_loopg [1, 5] left (fun g v1 v5 wr => ∃ (t p z m : Nat), v1 = .int .i64 (t : Int) ∧ v5 = .int .i64 (z : Int) ∧ Hid (g = t ∧ t ≤ 65536 ∧ t ≤ m ∧ p ≤ s.size ∧ z + 4 * t ≤ 262144 ∧ flg s.data.toList s.size m t p z = R ∧ But b w wr ∧ RA wr b s p))
  case atStart => exact ⟨left, a, 0, left, rfl, rfl, hide ⟨rfl, HL.out, Nat.le_refl _, HA.out, by have := HL.out; omega, HR.out, But.refl _ _, H0.out⟩⟩
  case round =>
    obtain ⟨t, p, z, m, rfl, rfl, HV⟩ := hrel
    obtain ⟨hg, k1, k2, k3, k4, k5, k6, k7⟩ := HV.out
    have HG := hide hg
    have K5 := hide k5
    have K6 := hide k6
    have K7 := hide k7
    clear HV hg k5 k6 k7 H0 HR HA HL
    have t0 : (0 : Int) ≤ (t : Int) := by omega
    have t1 : (t : Int) ≤ 65536 := by omega
    have z0 : (0 : Int) ≤ (z : Int) := by omega
    have z1 : (z : Int) ≤ 262144 := by omega
    by_cases ht : t = 0
    · subst ht
      have hd : decide ((0 : Int) < ((0 : Nat) : Int)) = false := by simp
      have E := hide (show R = some (p, z) by rw [← K5.out, flg_zero])
      go_wp2_with fail
      rw [Exit.noGoto_ret]
      go_ret
      rw [E.out]
      exact ⟨rfl, K6.out, K7.out⟩
    · have hd : (0 : Int) < (t : Int) := by omega
      have hd2 : decide (0 < t) = true := by simp; omega
      obtain ⟨m, rfl⟩ : ∃ m', m = m' + 1 := ⟨m - 1, by omega⟩
      have C := CL.out p wr K7.out k3
      cases hv : flaV s.data.toList s.size p with
      | none =>
        rw [hv] at C
        have E := hide (show R = none by rw [← K5.out, flg_no ht hv])
        have C := hide C
        clear hv
        go_wp2_with fail
        refine C.out.mono ?_
        rintro e w1 ⟨rfl, h1⟩
        refine ⟨rfl, ?_⟩
        rw [E.out]
        exact ⟨rfl, K6.out.trans h1⟩
      | some x =>
        obtain ⟨f, r, q⟩ := x
        rw [hv] at C
        obtain ⟨s1, s2, f1, r1, q1, q2⟩ := flg_step (m := m) (z := z) ht hv
        rw [K5.out] at s1 s2
        have S1 := hide s1
        have S2 := hide s2
        have C := hide C
        have CA := hide (fun w => CW.out f 2 16 w (by omega) (by omega) (by omega))
        have CB := hide (fun w => CW.out f 4 32 w (by omega) (by omega) (by omega))
        have ba := wid_le f 2 16
        have bb := wid_le f 4 32
        have HW : Hid (wxy f = wid f 2 16 + wid f 4 32) := hide rfl
        generalize wid f 2 16 = A at CA ba HW
        generalize wid f 4 32 = B at CB bb HW
        have ba' : (A : Int) ≤ 2 := by omega
        have bb' : (B : Int) ≤ 2 := by omega
        have r1' : (r : Int) ≤ 255 := by omega
        have f1' : (f : Int) ≤ 255 := by omega
        clear hv s1 s2 K5
        go_wp2_with fail
        refine C.out.mono ?_
        rintro e w1 ⟨rfl, h1, h2⟩
        have H1 := hide (K6.out.trans h1)
        have H2 := hide h2
        clear h1 h2 K6 K7 C
        go_wp2_with fail
        go_loopg [1, 5, 7] r (fun g v1 v5 v7 wr => ∃ (j T M y : Nat), v1 = .int .i64 (T : Int) ∧ v5 = .int .i64 (y : Int) ∧ v7 = .int .i64 (M : Int) ∧ Hid (g = M ∧ T + j = t ∧ M + j = r ∧ 1 ≤ T ∧ y = z + j * wxy f ∧ y ≤ z + 4 * j ∧ But b w wr ∧ RA wr b s q))
        case atStart => exact ⟨0, t, r, z, rfl, rfl, rfl, hide ⟨rfl, by omega, by omega, by omega, by omega, by omega, H1.out, H2.out⟩⟩
        case round =>
          obtain ⟨j, T, M, y, rfl, rfl, rfl, HV⟩ := hrel
          obtain ⟨hg, j1, j2, j3, j4, j5, j6, j7⟩ := HV.out
          have HG2 := hide hg
          have J1 := hide (show T + j = t ∧ M + j = r from ⟨j1, j2⟩)
          have J4 := hide j4
          have J6 := hide j6
          have J7 := hide j7
          have hT0 : (1 : Int) ≤ (T : Int) := by omega
          have hT1 : (T : Int) ≤ 65536 := by omega
          have hM0 : (0 : Int) ≤ (M : Int) := by omega
          have hM1 : (M : Int) ≤ 255 := by omega
          have hy0 : (0 : Int) ≤ (y : Int) := by omega
          have hy1 : (y : Int) ≤ 262144 := by omega
          have hY : Hid (y + (A + B) = z + (j + 1) * wxy f) := hide (by rw [Nat.succ_mul, j4, HW.out]; omega)
          clear HV hg j1 j2 j4 j6 j7 H1 H2
          by_cases hM : M = 0
          · have hm1 : ((M : Int) == 0) = true := by rw [beq_iff_eq]; omega
            go_wp2_with fail
            refine (CA.out _).mono ?_
            rintro e wy ⟨rfl, hy⟩
            subst wy
            go_wp2_with fail
            refine (CB.out _).mono ?_
            rintro e wy ⟨rfl, hy⟩
            subst wy
            go_wp2_with fail
            go_roundg (T - 1)
            case measure => have := HG.out; have := J1.out; omega
            case rel => exact ⟨T - 1, q, y + (A + B), m, congrArg (Value.int .i64) (by omega), congrArg (Value.int .i64) (by omega), hide ⟨rfl, by omega, by have := J1.out; omega, q1, by have := J1.out; omega, by
              have e := S1.out (by have := J1.out; omega)
              have e1 : t - (r + 1) = T - 1 := by have := J1.out; omega
              have e2 : j = r := by have := J1.out; omega
              have e3 := hY.out
              rw [e2] at e3
              rw [e1, ← e3] at e
              exact e.symm, J6.out, J7.out⟩⟩
          · have hm1 : ((M : Int) == 0) = false := by rw [beq_eq_false_iff_ne]; omega
            by_cases hT : T = 1
            · subst hT
              have E := hide (show R = none from S2.out (by have := J1.out; omega))
              go_wp2_with fail
              refine (CA.out _).mono ?_
              rintro e wy ⟨rfl, hy⟩
              subst wy
              go_wp2_with fail
              refine (CB.out _).mono ?_
              rintro e wy ⟨rfl, hy⟩
              subst wy
              go_wp2_with fail
              refine (CF.out _).mono ?_
              rintro e wy ⟨rfl, hy⟩
              subst wy
              refine ⟨rfl, ?_⟩
              rw [E.out]
              exact ⟨rfl, J6.out⟩
            · have hT2 : (0 : Int) < (T : Int) - 1 := by omega
              have hT3 : decide ((1 : Int) < (T : Int)) = true := by simp; omega
              go_wp2_with fail
              refine (CA.out _).mono ?_
              rintro e wy ⟨rfl, hy⟩
              subst wy
              go_wp2_with fail
              refine (CB.out _).mono ?_
              rintro e wy ⟨rfl, hy⟩
              subst wy
              go_wp2_with fail
              refine (CT.out _).mono ?_
              rintro e wy ⟨rfl, hy⟩
              subst wy
              go_wp2_with fail
              go_roundg (M - 1)
              case measure => have := HG2.out; omega
              case rel => exact ⟨j + 1, T - 1, M - 1, y + (A + B), congrArg (Value.int .i64) (by omega), congrArg (Value.int .i64) (by omega), congrArg (Value.int .i64) (by omega), hide ⟨rfl, by have := J1.out; omega, by have := J1.out; omega, by omega, hY.out, by omega, J6.out, J7.out⟩⟩
end Go.Proofs.YthnpnkiomknkeaaDoor.G10
