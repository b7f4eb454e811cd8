/- Proved: for every int and every list of ints FixedWhole returns true and leaves its arguments as they were (no condition). -/
import Derived.Test.YtnabfcpapjmgfabRows
import Derived.Test.YtnabfcpapjmgfabBase
import Derived.Test.YtnabfcpapjmgfabKeep
import Derived.Test.YtnabfcpapjmgfabRow
import Derived.Test.YtnabfcpapjmgfabShare
import Derived.Test.YtnabfcpapjmgfabShareGood
import Derived.Test.YtnabfcpapjmgfabWhole
import Derived.WalkKit
import Derived.ProofKit
import Derived.OpenShut
import Derived.ShutString
import Derived.ChangeOld
import Derived.Below
namespace Go.Proofs.Ytnabfcpapjmgfab.fixedWhole
open Go.ChangeShapes Go.WideShapes Go.ChangeAt Go.RowKit
open Go.ChangeMaps (open_string shut_string)
set_option linter.unusedVariables false

theorem own : ownKnob Try.prog.godebug = none := by kernel_rfl
theorem laidOut : laidOutB Try.prog = true := by kernel_rfl

/-- WHAT THE WALK IS TOLD OF A SLICE OF INTEGERS THAT CAME IN: it is nil; or it leads to a row of 'cap' cells, the numbers 'zs' (the first 'len' are its elements, the rest its spare room), each fitting its kind. -/
def IsRow (k : IntKind) (w : World) (a : Option Addr) (len cap : Nat) (zs : List Int) : Prop :=
  (a = none ∧ len = 0 ∧ cap = 0 ∧ zs = []) ∨
  ∃ x, a = some x ∧ len ≤ cap ∧ cap ≤ maxLen ∧ zs.length = cap ∧ (∀ i, i < zs.length → w.cell? (x.add i) = some (.int k (zs.getD i 0))) ∧ ∀ n ∈ zs, (Lit.int k n).wf = true

set_option maxHeartbeats 2000000 in
theorem core (t : Int) (a1 : Option Addr) (len1 cap1 : Nat) (zs : List Int) (w : World) (t1 : -9223372036854775808 ≤ t) (t2 : t ≤ 9223372036854775807) (hl : zs.length = len1) (hlc : len1 ≤ cap1) (hcm : cap1 ≤ 9223372036854775807) (hL : Lst w a1 zs) :
    Calls Try.prog 5 #[.int .i64 t, .slice a1 len1 cap1] w fun e w' => e = .returned (.bool true) ∧ Below w.heap.size w w' := by
  obtain ⟨ys, hys⟩ : ∃ ys, zs.take 100 = ys := ⟨_, rfl⟩
  have hyl : ys.length ≤ 100 := by rw [← hys, List.length_take]; omega
  have CI := hide (ints_any a1 len1 cap1 100 zs w hl hlc hcm hL (by omega) (by omega))
  rw [hys] at CI
  rw [show ((100 : Nat) : Int) = 100 from rfl] at CI
  obtain ⟨n, hn⟩ : ∃ n, ys.length = n := ⟨_, rfl⟩
  have Hn := hide hn
  have hn1 : n ≤ 100 := by omega
  have hn2 : (n : Int) ≤ 100 := by omega
  clear hL hl hlc hcm hys hyl hn
  go_enter Try.func5, Try.ntmps5
  go_wp2_with fail
  refine CI.out.mono ?_
  rintro e w1 ⟨v, rfl, g1, c1, rfl, B1, hg1, hg1', hc1, hc1', L1⟩
  rw [Hn.out] at hc1 ⊢
  have HB1 := hide B1
  have S1 := hide L1
  have HC1 := hide (And.intro hc1 hc1')
  clear L1 hc1 hc1' B1 CI
  go_wp2_with fail
  go_loop [6, 7] (fun vt vi => ∃ (k : Nat) (S : Int), vi = .int .i64 k ∧ vt = .int .i64 S ∧ Hid (k ≤ n ∧ total (ys.take k) = S ∧ 0 ≤ S ∧ S ≤ 1000000 * k ∧ ∀ i, i < k → 0 ≤ ys.getD i 0 ∧ ys.getD i 0 ≤ 1000000)) (fun _ vi => n - (intOf vi).toNat)
  case atStart => exact ⟨0, 0, rfl, rfl, hide ⟨by omega, rfl, by omega, by omega, fun i hi => absurd hi (by omega)⟩⟩
  case round =>
    obtain ⟨k, S, rfl, rfl, HR⟩ := hrel
    obtain ⟨k1, k2, k3, k4, k5⟩ := HR.out
    clear HR
    by_cases hlt : k < n
    · have hlt' : (k : Int) < (n : Int) := by omega
      have hl := Hn.out
      rcases S1.out with hz | ⟨b, off, hbo, hb, hcell⟩
      · rw [hz] at hl; simp at hl; omega
      simp only [Option.some.injEq, Addr.mk.injEq] at hbo
      obtain ⟨rfl, rfl, _⟩ := hbo
      have hc := hcell k (by omega)
      rw [Nat.zero_add] at hc
      have hts := take_snoc ys k (by omega)
      generalize hzk : ys.getD k 0 = z at *
      have K5 := hide k5
      have HZ := hide hzk
      have way : (decide (z < 0) = true) ∨ (decide (z < 0) = false ∧ decide (1000000 < z) = true) ∨ (decide (z < 0) = false ∧ decide (1000000 < z) = false ∧ 0 ≤ z ∧ z ≤ 1000000) := by
        simp only [decide_eq_true_eq, decide_eq_false_iff_not]; omega
      have K2 := hide (show total (ys.take (k + 1)) = S + z by rw [hts, total_snoc, k2])
      clear k2 k5 hzk hts hcell hl
      rcases way with y1 | ⟨y1, y2⟩ | ⟨y1, y2, y3, y4⟩
      · go_wp2_with (go_at_call 8; refine (wakes_any _).mono ?_; rintro e w' ⟨rfl, rfl⟩)
        go_ret
        exact ⟨rfl, HB1.out⟩
      · go_wp2_with (go_at_call 8; refine (wakes_any _).mono ?_; rintro e w' ⟨rfl, rfl⟩)
        go_ret
        exact ⟨rfl, HB1.out⟩
      · go_wp2
        go_round
        case rel =>
          refine ⟨k + 1, S + z, by go_num, rfl, hide ⟨by omega, K2.out, by omega, by omega, fun i hi => ?_⟩⟩
          by_cases hik : i = k
          · rw [hik, HZ.out]; exact ⟨y3, y4⟩
          · exact K5.out i (by omega)
        case measure => simp [intOf]; omega
    · have hlt' : ¬ (k : Int) < (n : Int) := by omega
      obtain rfl : k = n := by omega
      have hfit : Whole.Fit ys := fun i hi => k5 i (by have := Hn.out; omega)
      rw [List.take_of_length_le (by have := Hn.out; omega)] at k2
      have HF := hide hfit
      have HS := hide k2
      clear k1 k2 k5 hfit
      have way : (decide (t < -1000000) = true) ∨ (decide (t < -1000000) = false ∧ decide (1000000 < t) = true) ∨ (decide (t < -1000000) = false ∧ decide (1000000 < t) = false ∧ -1000000 ≤ t ∧ t ≤ 1000000) := by
        simp only [decide_eq_true_eq, decide_eq_false_iff_not]; omega
      rcases way with y1 | ⟨y1, y2⟩ | ⟨y1, y2, y3, y4⟩
      · go_wp2_with (go_at_call 8; refine (wakes_any _).mono ?_; rintro e w' ⟨rfl, rfl⟩)
        go_ret
        exact ⟨rfl, HB1.out⟩
      · go_wp2_with (go_at_call 8; refine (wakes_any _).mono ?_; rintro e w' ⟨rfl, rfl⟩)
        go_ret
        exact ⟨rfl, HB1.out⟩
      · have CJ := hide (ints_any (some ⟨g1, 0, none⟩) k c1 100 ys w1 Hn.out HC1.out.1 HC1.out.2 S1.out (by omega) (by omega))
        rw [List.take_of_length_le (by have := Hn.out; omega)] at CJ
        rw [show ((100 : Nat) : Int) = 100 from rfl] at CJ
        go_wp2_with fail
        refine CJ.out.mono ?_
        rintro e w2 ⟨v, rfl, g2, c2, rfl, B2, hg2, hg2', hc2, hc2', L2⟩
        rw [Hn.out] at hc2 ⊢
        have S2 := hide L2
        have HB2 := hide (HB1.out.trans (B2.mono HB1.out.size))
        have S1' := hide (S1.out.below B2)
        clear L2 B2 hc2 hc2' CJ
        have hok := Whole.ok_fit t ys y3 y4 HF.out (by have := Hn.out; omega)
        rw [HS.out] at hok
        by_cases hpos : 0 < S
        · have dpos : decide (0 < S) = true := by simp; omega
          have CG := hide (share_good t (some ⟨g2, 0, none⟩) k c2 ys w2 t1 t2 Hn.out (by omega) S2.out (by rw [hok, dpos]))
          clear hok
          go_wp2_with fail
          refine CG.out.mono ?_
          rintro e w3 ⟨g3, rfl, B3, O3⟩
          have L3 := hide (O3.lst (by rw [Whole.shL_len]; exact Hn.out))
          have L1 := hide (S1'.out.below B3)
          have HB3 := hide (HB2.out.trans (B3.mono HB2.out.size))
          clear B3 O3 CG
          go_wp2_with fail
          go_loopw [10, 11, 12] (fun vs vi _ wr => ∃ (j q : Nat) (Z : Int), vi = .int .i64 j ∧ vs = .int .i64 Z ∧ wr = w3.drewN q ∧ Hid (j ≤ k ∧ cumF t ys j = Z)) (fun _ vi _ _ => k - (intOf vi).toNat)
          case atStart => exact ⟨0, 0, 0, rfl, rfl, rfl, hide ⟨by omega, cum_zero t ys⟩⟩
          case round =>
            obtain ⟨j, q, Z, rfl, rfl, rfl, HR⟩ := hrel
            obtain ⟨j1, j2⟩ := HR.out
            clear HR
            by_cases hjt : j < k
            · have hjt' : (j : Int) < (k : Int) := by omega
              have hl := Hn.out
              have hl3 := Whole.shL_len t ys
              rcases L1.out with hz | ⟨b, off, hbo, hb, hcell⟩
              · rw [hz] at hl; simp at hl; omega
              simp only [Option.some.injEq, Addr.mk.injEq] at hbo
              obtain ⟨rfl, rfl, _⟩ := hbo
              rcases L3.out with hz | ⟨b, off, hbo, hb', hcell3⟩
              · rw [hz] at hl3; simp at hl3; omega
              simp only [Option.some.injEq, Addr.mk.injEq] at hbo
              obtain ⟨rfl, rfl, _⟩ := hbo
              have hc := hcell j (by omega)
              have hc3 := hcell3 j (by omega)
              rw [Nat.zero_add] at hc hc3
              rw [Whole.shL_get t ys j (by omega)] at hc3
              obtain ⟨d, d1, d2, d3⟩ := Whole.share_fit t ys y3 y4 HF.out (by rw [HS.out]; exact hpos) j (by omega)
              rw [HS.out] at d1 d2 d3
              have hzb := HF.out j (by omega)
              have hcum : Z + shF t ys j = cumF t ys (j + 1) := by rw [← j2]; unfold shF; omega
              have bZ : -1099511627776 ≤ Z ∧ Z ≤ 1099511627776 := by rw [← j2]; exact Whole.cum_bd t ys j
              have bZ2 := Whole.cum_bd t ys (j + 1)
              rw [← hcum] at bZ2
              have KC := hide hcum
              generalize shF t ys j = x at *
              generalize ys.getD j 0 = z at *
              have bP : -1000000000000 ≤ t * z ∧ t * z ≤ 1000000000000 := by
                have e := Int.natAbs_mul t z
                have e2 : t.natAbs * z.natAbs ≤ 1000000 * 1000000 := Nat.mul_le_mul (by omega) (by omega)
                omega
              have eP2 : wrap64 (t * z) = t * z := IntWalk.wrap64_in _ ⟨by omega, by omega⟩
              have eP1 : wrap64 (x * S) = x * S := IntWalk.wrap64_in _ ⟨by omega, by omega⟩
              generalize hP1 : x * S = P1 at *
              generalize hP2 : t * z = P2 at *
              have f1 : decide (P1 - P2 ≤ -S) = false := by simp; omega
              have f2 : decide (S ≤ P1 - P2) = false := by simp; omega
              have bP1 : -2000000000000 ≤ P1 ∧ P1 ≤ 2000000000000 := by omega
              clear d1 d2 d3 hl hl3 hcell hcell3 hcum j2
              go_wp2_with fail
              go_quiet (fail)
              go_wp2
              go_roundw
              case rel => exact ⟨j + 1, _, Z + x, by go_num, rfl, rfl, hide ⟨by omega, KC.out.symm⟩⟩
              case measure => simp [intOf]; omega
            · have hjt' : ¬ (j : Int) < (k : Int) := by omega
              obtain rfl : j = k := by omega
              have hce := Whole.cum_end t ys y3 y4 (by rw [HS.out]; exact hpos)
              rw [Hn.out, j2] at hce
              subst hce
              clear j2
              go_wp2_with (go_at_call 8; refine (wakes_any _).mono ?_; rintro e w' ⟨rfl, rfl⟩)
              go_ret
              exact ⟨rfl, below_drewN HB3.out _⟩
        · have dpos : decide (0 < S) = false := by simp; omega
          have CG := hide (share_bad t (some ⟨g2, 0, none⟩) k c2 ys w2 Hn.out (by omega) S2.out (by rw [hok, dpos]))
          clear hok
          go_wp2_with fail
          refine CG.out.mono ?_
          rintro e w3 ⟨rfl, m, rfl⟩
          go_wp2_with fail
          go_loop [10, 11, 12] (fun vs vi _ => vi = .int .i64 0 ∧ vs = .int .i64 0) (fun _ _ _ => 0)
          case atStart => exact ⟨rfl, rfl⟩
          case round =>
            obtain ⟨rfl, rfl⟩ := hrel
            go_wp2_with (go_at_call 8; refine (wakes_any _).mono ?_; rintro e w' ⟨rfl, rfl⟩)
            go_ret
            exact ⟨rfl, below_drewN HB2.out _⟩

/-! ### STEP 1: THE WALK: the Go text returns true, AND WRITES NOTHING THAT WAS THERE: 'Below w.heap.size w w'' (Derived/Below.lean: '.refl', '.alloc', '.drew', '.setCell' at a new block, '.trans'). Open each 'IsRow' by 'rcases' AHEAD of 'go_enter'; part every test ahead of the walk. -/
theorem walk (a0 : Int) (a1 : Option Addr) (len1 cap1 : Nat) (z1 : List Int) (w : World) (w0 : (Lit.int .i64 a0).wf = true) (w1 : IsRow .i64 w a1 len1 cap1 z1) :
    Calls Try.prog 5 #[.int .i64 a0, .slice a1 len1 cap1] w fun e w' => e = .returned (.bool true) ∧ Below w.heap.size w w' := by
  obtain ⟨hl, hlc, hcm, hL, _⟩ := lst_of_row w a1 len1 cap1 z1 w1
  have bd0 := bounds_i64 w0
  exact core a0 a1 len1 cap1 _ w bd0.1 bd0.2 hl hlc hcm hL

/-! ### THE ROW's STEP: WRITTEN OUT: LEAVE IT -/
set_option maxRecDepth 100000 in
theorem lifted (os : Os) (started : os.Started) (H : Type) (enc : TypeId × Value → H) :
    ReturnsInHanded {} Try.checked os 5 .any (Rows.fixedWholeSpec.pre6 enc Try.prog Try.f5 Rows.fixedWholeRow.domain false) (Rows.fixedWholeSpec.post enc Try.prog Try.f5 false true false false) := by
  refine returnsInHanded_of_change (C := Try.checked) own started (by kernel_rfl) Try.func5
    (ChangeSpec.witness6 (enc := enc) (C := Try.checked) false ⟨#[], #[.int .i64 0, .slice none 0 0], []⟩ 8 (by kernel_rfl) (by kernel_rfl) (by kernel_rfl) (by kernel_rfl)) ?_
  intro W base args ds gs before hval0 hW hcnd _
  have hval : ∀ (j : Nat) t v, Try.f5.params[j]? = some t → args[j]? = some v → Value.okWide Try.prog W .any base t v := hval0
  have hW' := hW
  obtain ⟨p, q, hA0, hV, rfl, hfz, hnd⟩ := hW
  have hA : DataW.TrodAll enc Try.prog W 0 (fun _ => true) true Try.f5.params.toList args.toList ds p := hA0
  rw [Try.params5] at hA hval
  obtain ⟨v0, vs0, d0, ds0, p0, q0, hargs, rfl, rfl, h0, r0⟩ := trodAll_cons hA
  obtain ⟨v1, vs1, d1, ds1, p1, q1, rfl, rfl, rfl, h1, r1⟩ := trodAll_cons r0
  obtain ⟨rfl, rfl, rfl⟩ := trodAll_nil r1
  obtain rfl : args = #[v0, v1] := by cases args; simp_all
  obtain ⟨rfl, rfl⟩ := trodVars_none hV
  obtain ⟨a0, rfl, rfl, rfl, w0⟩ := open_int Try.underlying3 (hval 0 3 v0 rfl rfl) h0
  obtain ⟨a1, len1, cap1, rfl⟩ := okWide_slice Try.underlying29 (hval 1 29 v1 rfl rfl)
  have k1 := h1
  have lt1 : ∀ x ∈ p1, x.block < W.heap.size := by obtain ⟨m, hm⟩ := k1; exact DataW.trod_lt m _ _ _ hm
  obtain ⟨z1, w1⟩ : ∃ zs, IsRow .i64 W a1 len1 cap1 zs := by
    obtain ⟨fuel, hf⟩ := h1
    rcases open_ints Try.underlying29 Try.underlying3 (by kernel_rfl) hf with ⟨hcs, _⟩ | ⟨x, l, c, zs, hcs, _, hl, hm, hz, _, hcell, hwz⟩
    · simp [Value.cells] at hcs
      obtain ⟨rfl, rfl, rfl⟩ := hcs
      exact ⟨[], .inl ⟨rfl, rfl, rfl, rfl⟩⟩
    · simp [Value.cells] at hcs
      obtain ⟨rfl, rfl, rfl⟩ := hcs
      exact ⟨zs, .inr ⟨_, rfl, hl, hm, by simpa using hz, hcell, hwz⟩⟩
  clear hA0 hval0
  refine (walk a0 a1 len1 cap1 z1 W w0 w1).mono fun e W' ⟨he, bel⟩ => ?_
  subst he
  exact ⟨_, rfl, _, _, _, [], _, [], hW', trodAll_mk1 (shut_bool Try.underlying4 _), (trodAll_cons_mk (shut_int Try.underlying3 w0) (trodAll_cons_mk (Below.trod laidOut (by kernel_rfl) (of_decide_eq_true (by kernel_rfl)) k1 bel lt1) trodAll_mk0)), rfl, bel.frame _, fun h => by cases h⟩

theorem over : Rows.fixedWholeRow.holds Try.pinned (OpenSpec.ofChange Rows.fixedWholeSpec) :=
  OpenClaim.holds_of_wide 5 Try.f5 rfl rfl rfl rfl rfl rfl rfl ⟨rfl, rfl, rfl, rfl, rfl⟩ rfl rfl rfl rfl rfl (by kernel_rfl) Try.func5 (by kernel_rfl)
    (of_decide_eq_true (by kernel_rfl)) (by unfold Func.isWrapper; first | (rw [if_pos (by decide +kernel)]; kernel_rfl) | (rw [if_neg (by decide +kernel)]; exact ⟨rfl, rfl⟩))
    (fun os started H enc _ => lifted os started H enc)

/-- ████ THE STATEMENT ████ -/
theorem proved : Rows.FixedWholeSaid := over
end Go.Proofs.Ytnabfcpapjmgfab.fixedWhole
namespace Go.Proofs.Ytnabfcpapjmgfab
theorem fixedWhole_holds : Rows.FixedWholeSaid := fixedWhole.proved
#print axioms fixedWhole_holds
end Go.Proofs.Ytnabfcpapjmgfab
