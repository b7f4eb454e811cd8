/- Proved: for every string UtfDecodes returns true and leaves its arguments as they were (no condition but the card's own: Go's library's tables read as the program's text lays them). -/
import Derived.Test.YtncmkiejamkklaaDoorCards
import Derived.Test.YtncmkiejamkklaaDoorTie
import Derived.Test.YtncmkiejamkklaaDoorU4Wakes
import Derived.Test.YtncmkiejamkklaaDoorU4RDec
import Derived.Test.YtncmkiejamkklaaDoorU4Glo
import Derived.WalkKit
import Derived.ProofKit
import Derived.OpenShut
import Derived.ShutString
import Derived.Deep.DeepHandedRow
import Derived.LaidLaws
import Derived.Lay
import Derived.MakeChecks
import Derived.SevenTiedAt
namespace Go.Proofs.YtncmkiejamkklaaDoor.utfDecodes
open Go.ChangeShapes Go.WideShapes Go.ChangeAt Go.RowKit
open Go.ChangeMaps (open_string shut_string)
set_option linter.unusedVariables false

theorem own : ownKnob Tryd.prog.godebug = none := by kernel_rfl

theorem core (s : ByteArray) (w : World) (hg : Glo w) (hs : s.size ≤ 65536) :
    Calls Tryd.prog 3 #[.string s] w fun e w' => e = .returned (.bool true) ∧ Below w.heap.size w w' := by
  obtain ⟨⟨ZS, P, E⟩, hR⟩ : ∃ R, rd st8 s.data.toList 0 = R := ⟨_, rfl⟩
  have hn : ZS.length ≤ 65536 := by
    have := rd_len st8 s.data.toList 0
    rw [hR, ← Lib.size_eq] at this
    exact Nat.le_trans this hs
  have C1 := hide (decode_core s w hg hs ZS P E hR)
  have C2 := hide (fun w => rdecode_core s w hs ZS P E hR)
  have CW := hide (fun w' (h : Below w.heap.size w w') => wakes_any w' (hg.below h))
  have h1 : (s.size : Int) ≤ 65536 := by omega
  have HN := hide hn
  clear hg hs hR hn
  go_enter Tryd.func3, Tryd.ntmps3
  go_wp2_with (go_at_call 10; refine C1.out.mono ?_; rintro e w1 ⟨v, rfl, hr, hb⟩; obtain ⟨a, cap, rfl, hL, hc1, hc2⟩ := hr.lst)
  have L1 := hide hL
  have B1 := hide hb
  clear hr hL hb hc1 hc2
  refine (C2.out _).mono ?_
  rintro e w2 ⟨v, rfl, hr, hb⟩
  obtain ⟨a2, cap2, rfl, hL, hc1, hc2⟩ := hr.lst
  have L2 := hide hL
  have L1' := hide (L1.out.below hb)
  have B2 := hide (B1.out.trans (hb.mono B1.out.size))
  clear hr hL hb hc1 hc2
  go_wp2_with fail
  refine (same_any a a2 ZS.length cap cap2 ZS _ rfl (by have := HN.out; omega) L1'.out L2.out).mono ?_
  rintro e w' ⟨rfl, n, rfl⟩
  have B3 := hide (bl_drewN B2.out n)
  go_wp2_with (go_at_call 9; refine (CW.out _ B3.out).mono ?_; rintro e w4 ⟨rfl, hb4⟩)
  go_ret
  exact ⟨rfl, B3.out.trans (hb4.mono B3.out.size)⟩
theorem long (s : ByteArray) (w : World) (hg : Glo w) (hs : ¬ s.size ≤ 65536) (hm : s.size ≤ maxLen) :
    Calls Tryd.prog 3 #[.string s] w fun e w' => e = .returned (.bool true) ∧ Below w.heap.size w w' := by
  have CW := hide (wakes_any w hg)
  have h1 : (65536 : Int) < (s.size : Int) := by omega
  have h2 : (s.size : Int) ≤ 9223372036854775807 := by unfold maxLen at hm; omega
  clear hg hs hm
  go_enter Tryd.func3, Tryd.ntmps3
  go_wp2_with (go_at_call 9; refine CW.out.mono ?_; rintro e w4 ⟨rfl, hb4⟩)
  go_ret
  exact ⟨rfl, hb4⟩

theorem walk (a0 : ByteArray) (w0 : a0.size ≤ maxLen) (w : World) (hL : laidMetH Tryd.prog Rows.utfDecodesRow.laid w) (hsh : w.ShapedOpen Tryd.prog) :
    Calls Tryd.prog 3 #[.string a0] w fun e w' => e = .returned (.bool true) ∧ Below w.heap.size w w' := by
  by_cases hs : a0.size ≤ 65536
  · exact core a0 w (glo_of hL) hs
  · exact long a0 w (glo_of hL) hs w0

set_option maxRecDepth 100000 in
theorem lifted (os : Os) (started : os.Started) (H : Type) (enc : TypeId × Value → H) (F : Stop.Interp) :
    ReturnsInHanded {} Tryd.checked os 3 .any ((OpenSpec.ofChange Rows.utfDecodesSpec).preRow enc Tryd.prog Tryd.f3 Rows.utfDecodesRow.domain false Rows.utfDecodesRow.laid) (((OpenSpec.ofChange Rows.utfDecodesSpec).at F).post enc Tryd.prog Tryd.f3 false true false false) := by
  refine returnsInHanded_of_row (C := Tryd.checked) (s := OpenSpec.ofChange Rows.utfDecodesSpec) own started (by kernel_rfl) Tryd.func3 ?_ ?_
  · exact ChangeSpec.witness_shaped (enc := enc) (C := Tryd.checked) (os := os) (X := fun w _ => laidMetH Tryd.prog Rows.utfDecodesRow.laid w) false (World.laidAll Tryd.prog os Rows.utfDecodesRow.laid) #[.string ByteArray.empty] 8 (World.laidAll_os _ _ _)
      (World.shaped_of_ZipB (by kernel_rfl) (by kernel_rfl)) (by kernel_rfl) (by kernel_rfl) (by kernel_rfl)
      (by rw [MakeChecks.laidMetH_plain _ _ _ (by kernel_rfl)]; exact laidMet_laidAll _ (by kernel_rfl) (by kernel_rfl))
  intro W base args ds gs before hval0 hW _ _ _ hL hsh _
  have hval : ∀ (j : Nat) t v, Tryd.f3.params[j]? = some t → args[j]? = some v → Value.okWide Tryd.prog W .any base t v := hval0
  have hW' := hW
  obtain ⟨p, q, hA0, hV, rfl, hfz, hnd⟩ := hW
  have hA : DataW.TrodAll enc Tryd.prog W 0 (fun _ => true) true Tryd.f3.params.toList args.toList ds p := hA0
  rw [Tryd.params3] at hA hval
  obtain ⟨v0, vs0, d0, ds0, p0, q0, hargs, rfl, rfl, h0, r0⟩ := trodAll_cons hA
  obtain ⟨rfl, rfl, rfl⟩ := trodAll_nil r0
  obtain rfl : args = #[v0] := by cases args; simp_all
  obtain ⟨rfl, rfl⟩ := trodVars_none hV
  obtain ⟨a0, rfl, rfl, rfl, w0⟩ := open_string Tryd.underlying9 (hval 0 9 v0 rfl rfl) h0
  clear hA0 hval0
  refine (walk a0 w0 W hL hsh).mono fun e W' ⟨he, bel⟩ => ?_
  subst he
  exact ⟨_, rfl, _, _, _, [], _, [], hW', trodAll_mk1 (shut_bool Tryd.underlying4 _), (trodAll_cons_mk (shut_string Tryd.underlying9 w0) trodAll_mk0), rfl, bel.frame _, fun h => by cases h⟩

theorem said : Rows.UtfDecodesSaid :=
  OpenClaim.holds_of_cond 3 Tryd.f3 rfl rfl rfl rfl rfl rfl rfl ⟨rfl, rfl, rfl, rfl, rfl⟩ rfl rfl rfl rfl rfl (by kernel_rfl) Tryd.func3 (by kernel_rfl)
    (of_decide_eq_true (by kernel_rfl)) (by unfold Func.isWrapper; first | (rw [if_pos (by decide +kernel)]; kernel_rfl) | (rw [if_neg (by decide +kernel)]; exact ⟨rfl, rfl⟩))
    (fun os started H enc _ F => by rw [OpenClaim.pre_eq_preRow]; exact lifted os started H enc F)

theorem plain (f : FuncId) (fn : Func) (hf : Tryd.pinned.checked.prog.funcNamed Tryd.f3.name = some f) (hfn : Tryd.pinned.checked.prog.funcs[f]? = some fn) :
    false = Tryd.pinned.checked.prog.looks [] ∧ ∀ (j : Nat) t, fn.params[j]? = some t → Tryd.pinned.checked.prog.wantsStandIn t = false := by
  obtain rfl : f = 3 := Option.some.inj ((show Tryd.prog.funcNamed Tryd.f3.name = some 3 by kernel_rfl).symm.trans hf) |>.symm
  obtain rfl : fn = Tryd.f3 := (Option.some.inj (Tryd.func3.symm.trans hfn)).symm
  refine ⟨by kernel_rfl, fun j t ht => ?_⟩
  rw [Tryd.params3] at ht
  have hm : t ∈ [9] := by simpa using Array.mem_of_getElem? ht
  have hall : ([9].all fun u => !Tryd.prog.wantsStandIn u) = true := by kernel_rfl
  exact (show Tryd.prog.wantsStandIn t = false by simpa using List.all_eq_true.1 hall t hm)

theorem card : Rows.UtfDecodesCardSaid :=
  Claim7.holds_tied_plain_at .later [] _ _ _ _ said (fun _ h => by cases h) (by kernel_rfl) (fun _ h => by cases h) utfDecodes_row_tie rfl ⟨rfl, rfl⟩ (by kernel_rfl) rfl plain (by kernel_rfl)
end Go.Proofs.YtncmkiejamkklaaDoor.utfDecodes
namespace Go.Proofs.YtncmkiejamkklaaDoor
theorem utfDecodes_holds : Rows.UtfDecodesCardSaid := utfDecodes.card
#print axioms utfDecodes_holds
end Go.Proofs.YtncmkiejamkklaaDoor
