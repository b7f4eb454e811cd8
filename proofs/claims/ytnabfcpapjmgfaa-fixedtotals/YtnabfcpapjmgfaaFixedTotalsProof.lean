/- Proved: for every list of ints FixedTotals returns true and leaves its arguments as they were (no condition). -/
import Derived.Test.YtnabfcpapjmgfaaRows
import Derived.Test.YtnabfcpapjmgfaaBase
import Derived.Test.YtnabfcpapjmgfaaRBase
import Derived.Test.YtnabfcpapjmgfaaKeep
import Derived.Test.YtnabfcpapjmgfaaSums
import Derived.Test.YtnabfcpapjmgfaaRSums
import Derived.Test.YtnabfcpapjmgfaaSame
import Derived.Test.YtnabfcpapjmgfaaRow
import Derived.WalkKit
import Derived.ProofKit
import Derived.OpenShut
import Derived.ShutString
import Derived.ChangeOld
import Derived.Below
namespace Go.Proofs.Ytnabfcpapjmgfaa.fixedTotals
open Go.ChangeShapes Go.WideShapes Go.ChangeAt Go.RowKit
open Go.ChangeMaps (open_string shut_string)
set_option linter.unusedVariables false

theorem own : ownKnob Try.prog.godebug = none := by kernel_rfl
theorem laidOut : laidOutB Try.prog = true := by kernel_rfl

/-- WHAT THE WALK IS TOLD OF A SLICE OF INTEGERS THAT CAME IN: it is nil; or it leads to a row of 'cap' cells, the numbers 'zs' (the first 'len' are its elements, the rest its spare room), each fitting its kind. -/
def IsRow (k : IntKind) (w : World) (a : Option Addr) (len cap : Nat) (zs : List Int) : Prop :=
  (a = none ∧ len = 0 ∧ cap = 0 ∧ zs = []) ∨
  ∃ x, a = some x ∧ len ≤ cap ∧ cap ≤ maxLen ∧ zs.length = cap ∧ (∀ i, i < zs.length → w.cell? (x.add i) = some (.int k (zs.getD i 0))) ∧ ∀ n ∈ zs, (Lit.int k n).wf = true

/-! ### STEP 1: THE WALK: the Go text returns true, AND WRITES NOTHING THAT WAS THERE: 'Below w.heap.size w w'' (Derived/Below.lean: '.refl', '.alloc', '.drew', '.setCell' at a new block, '.trans'). Open each 'IsRow' by 'rcases' AHEAD of 'go_enter'; part every test ahead of the walk. -/
theorem walk (a0 : Option Addr) (len0 cap0 : Nat) (z0 : List Int) (w : World) (w0 : IsRow .i64 w a0 len0 cap0 z0) :
    Calls Try.prog 7 #[.slice a0 len0 cap0] w fun e w' => e = .returned (.bool true) ∧ Below w.heap.size w w' := by
  obtain ⟨hl, hlc, hcm, hL, _⟩ := lst_of_row w a0 len0 cap0 z0 w0
  clear w0
  generalize z0.take len0 = zs at *
  obtain ⟨ys, hys⟩ : ∃ ys, zs.take 4096 = ys := ⟨_, rfl⟩
  have hyl : ys.length ≤ 4096 := by rw [← hys, List.length_take]; omega
  have CI := hide (fun (w' : World) (h : Lst w' a0 zs) => ints_any a0 len0 cap0 4096 zs w' hl hlc hcm h (by omega) (by omega))
  rw [hys] at CI
  rw [show ((4096 : Nat) : Int) = 4096 from rfl] at CI
  obtain ⟨n, hn⟩ : ∃ n, ys.length = n := ⟨_, rfl⟩
  have HL := hide hL
  have Hn := hide hn
  have Hy := hide hyl
  clear hL hl hlc hcm hys hyl hn
  go_enter Try.func7, Try.ntmps7
  go_wp2_with fail
  refine (CI.out _ HL.out).mono ?_
  rintro e w1 ⟨v, rfl, g1, c1, rfl, B1, hg1, hg1', hc1, hc1', L1⟩
  rw [Hn.out]
  have S1 := hide L1
  have X1 := hide (fun w h => sum_any (some ⟨g1, 0, none⟩) n c1 ys w Hn.out (by have := Hy.out; have := Hn.out; omega) h)
  clear L1 hc1 hc1'
  go_wp2_with fail
  refine (X1.out _ S1.out).mono ?_
  rintro e w' ⟨rfl, k1, rfl⟩
  have T1 := hide ((HL.out.below B1).drewN k1)
  go_wp2_with fail
  refine (CI.out _ T1.out).mono ?_
  rintro e w2 ⟨v, rfl, g2, c2, rfl, B2, hg2, hg2', hc2, hc2', L2⟩
  rw [Hn.out]
  have S2 := hide L2
  have X2 := hide (fun w h => rsum_any (some ⟨g2, 0, none⟩) n c2 ys w Hn.out (by have := Hy.out; have := Hn.out; omega) h)
  clear L2 hc2 hc2'
  go_wp2_with fail
  refine (X2.out _ S2.out).mono ?_
  rintro e w' ⟨rfl, rfl⟩
  have T2 := hide (T1.out.below B2)
  go_wp2_with fail
  refine (CI.out _ T2.out).mono ?_
  rintro e w3 ⟨v, rfl, g3, c3, rfl, B3, hg3, hg3', hc3, hc3', L3⟩
  rw [Hn.out]
  have R1 := hide (((S1.out.drewN k1).below B2).below B3)
  have R3 := hide L3
  clear L3 hc3 hc3'
  go_wp2_with fail
  refine (same_any (some ⟨g1, 0, none⟩) (some ⟨g3, 0, none⟩) n c1 c3 ys w3 Hn.out (by have := Hy.out; have := Hn.out; omega) R1.out R3.out).mono ?_
  rintro e w' ⟨rfl, k3, rfl⟩
  go_wp2_with (go_at_call 15; refine (wakes_any _).mono ?_; rintro e w' ⟨rfl, rfl⟩)
  go_ret
  refine ⟨rfl, below_drewN ?_ _⟩
  have s1 := B1.size
  have s2 : w1.heap.size ≤ _ := B2.size
  exact ((below_drewN B1 k1).trans (B2.mono s1)).trans (B3.mono (Nat.le_trans s1 s2))

/-! ### THE ROW's STEP: WRITTEN OUT: LEAVE IT -/
set_option maxRecDepth 100000 in
theorem lifted (os : Os) (started : os.Started) (H : Type) (enc : TypeId × Value → H) :
    ReturnsInHanded {} Try.checked os 7 .any (Rows.fixedTotalsSpec.pre6 enc Try.prog Try.f7 Rows.fixedTotalsRow.domain false) (Rows.fixedTotalsSpec.post enc Try.prog Try.f7 false true false false) := by
  refine returnsInHanded_of_change (C := Try.checked) own started (by kernel_rfl) Try.func7
    (ChangeSpec.witness6 (enc := enc) (C := Try.checked) false ⟨#[], #[.slice none 0 0], []⟩ 8 (by kernel_rfl) (by kernel_rfl) (by kernel_rfl) (by kernel_rfl)) ?_
  intro W base args ds gs before hval0 hW hcnd _
  have hval : ∀ (j : Nat) t v, Try.f7.params[j]? = some t → args[j]? = some v → Value.okWide Try.prog W .any base t v := hval0
  have hW' := hW
  obtain ⟨p, q, hA0, hV, rfl, hfz, hnd⟩ := hW
  have hA : DataW.TrodAll enc Try.prog W 0 (fun _ => true) true Try.f7.params.toList args.toList ds p := hA0
  rw [Try.params7] at hA hval
  obtain ⟨v0, vs0, d0, ds0, p0, q0, hargs, rfl, rfl, h0, r0⟩ := trodAll_cons hA
  obtain ⟨rfl, rfl, rfl⟩ := trodAll_nil r0
  obtain rfl : args = #[v0] := by cases args; simp_all
  obtain ⟨rfl, rfl⟩ := trodVars_none hV
  obtain ⟨a0, len0, cap0, rfl⟩ := okWide_slice Try.underlying29 (hval 0 29 v0 rfl rfl)
  have k0 := h0
  have lt0 : ∀ x ∈ p0, x.block < W.heap.size := by obtain ⟨m, hm⟩ := k0; exact DataW.trod_lt m _ _ _ hm
  obtain ⟨z0, w0⟩ : ∃ zs, IsRow .i64 W a0 len0 cap0 zs := by
    obtain ⟨fuel, hf⟩ := h0
    rcases open_ints Try.underlying29 Try.underlying3 (by kernel_rfl) hf with ⟨hcs, _⟩ | ⟨x, l, c, zs, hcs, _, hl, hm, hz, _, hcell, hwz⟩
    · simp [Value.cells] at hcs
      obtain ⟨rfl, rfl, rfl⟩ := hcs
      exact ⟨[], .inl ⟨rfl, rfl, rfl, rfl⟩⟩
    · simp [Value.cells] at hcs
      obtain ⟨rfl, rfl, rfl⟩ := hcs
      exact ⟨zs, .inr ⟨_, rfl, hl, hm, by simpa using hz, hcell, hwz⟩⟩
  clear hA0 hval0
  refine (walk a0 len0 cap0 z0 W w0).mono fun e W' ⟨he, bel⟩ => ?_
  subst he
  exact ⟨_, rfl, _, _, _, [], _, [], hW', trodAll_mk1 (shut_bool Try.underlying4 _), (trodAll_cons_mk (Below.trod laidOut (by kernel_rfl) (of_decide_eq_true (by kernel_rfl)) k0 bel lt0) trodAll_mk0), rfl, bel.frame _, fun h => by cases h⟩

theorem over : Rows.fixedTotalsRow.holds Try.pinned (OpenSpec.ofChange Rows.fixedTotalsSpec) :=
  OpenClaim.holds_of_wide 7 Try.f7 rfl rfl rfl rfl rfl rfl rfl ⟨rfl, rfl, rfl, rfl, rfl⟩ rfl rfl rfl rfl rfl (by kernel_rfl) Try.func7 (by kernel_rfl)
    (of_decide_eq_true (by kernel_rfl)) (by unfold Func.isWrapper; first | (rw [if_pos (by decide +kernel)]; kernel_rfl) | (rw [if_neg (by decide +kernel)]; exact ⟨rfl, rfl⟩))
    (fun os started H enc _ => lifted os started H enc)

/-- ████ THE STATEMENT ████ -/
theorem proved : Rows.FixedTotalsSaid := over
end Go.Proofs.Ytnabfcpapjmgfaa.fixedTotals
namespace Go.Proofs.Ytnabfcpapjmgfaa
theorem fixedTotals_holds : Rows.FixedTotalsSaid := fixedTotals.proved
#print axioms fixedTotals_holds
end Go.Proofs.Ytnabfcpapjmgfaa
