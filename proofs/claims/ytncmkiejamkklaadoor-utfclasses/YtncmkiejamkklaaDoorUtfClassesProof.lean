/- Proved: for every int UtfClasses returns true and leaves its arguments as they were (no condition but the card's own: Go's library's tables read as the program's text lays them). -/
import Derived.Test.YtncmkiejamkklaaDoorCards
import Derived.Test.YtncmkiejamkklaaDoorTie
import Derived.Test.YtncmkiejamkklaaDoorU4Wakes
import Derived.Test.YtncmkiejamkklaaDoorU4RCls
import Derived.Test.YtncmkiejamkklaaDoorU4Glo
import Derived.WalkKit
import Derived.ProofKit
import Derived.OpenShut
import Derived.ShutString
import Derived.Deep.DeepHandedRow
import Derived.LaidLaws
import Derived.Lay
import Derived.MakeChecks
import Derived.SevenTiedAt
namespace Go.Proofs.YtncmkiejamkklaaDoor.utfClasses
open Go.ChangeShapes Go.WideShapes Go.ChangeAt Go.RowKit
open Go.ChangeMaps (open_string shut_string)
set_option linter.unusedVariables false

theorem own : ownKnob Tryd.prog.godebug = none := by kernel_rfl

theorem low_low (c : Int) : lowV (lowV c) = lowV c := by
  unfold lowV win
  by_cases h : (decide (65 ≤ c ∧ c ≤ 90) || (decide (192 ≤ c ∧ c ≤ 222) && c != 215)) = true
  · rw [if_pos h]
    have : (65 ≤ c ∧ c ≤ 90) ∨ (192 ≤ c ∧ c ≤ 222 ∧ c ≠ 215) := by simpa [and_assoc] using h
    rw [if_neg (by simp; omega)]
  · rw [if_neg h, if_neg h]
theorem core (c : Int) (w : World) (hg : Glo w) :
    Calls Tryd.prog 5 #[.int .i64 c] w fun e w' => e = .returned (.bool true) ∧ Below w.heap.size w w' := by
  have hl := low_low c
  have CW := hide (wakes_any w hg)
  obtain ⟨L, hL⟩ : ∃ L, lowV c = L := ⟨_, rfl⟩
  rw [hL] at hl
  have e1 : (clsV c == clsV c) = true := by simp
  have C1 : Hid (∀ x w, (x = c ∨ x = L) → Calls Tryd.prog 18 #[.int .i64 x] w fun e w' => e = .returned (.int .i64 L) ∧ w' = w) := by
    intro x w h
    rcases h with rfl | rfl
    · have := lower_any x w; rwa [hL] at this
    · have := lower_any x w; rwa [hl] at this
  have C2 : Hid (∀ w, Calls Tryd.prog 19 #[.int .i64 c] w fun e w' => e = .returned (.int .i64 L) ∧ w' = w) := by
    intro w
    have := rlower_any c w; rwa [hL] at this
  clear hl hL hg
  go_enter Tryd.func5, Tryd.ntmps5
  go_wp2_with (first | (go_at_call 16; refine (class_any _ _).mono ?_; rintro e w' ⟨rfl, rfl⟩) | (go_at_call 17; refine (rclass_any _ _).mono ?_; rintro e w' ⟨rfl, rfl⟩) | (go_at_call 18; refine (C1.out _ _ (by first | exact Or.inl rfl | exact Or.inr rfl)).mono ?_; rintro e w' ⟨rfl, rfl⟩) | (go_at_call 19; refine (C2.out _).mono ?_; rintro e w' ⟨rfl, rfl⟩) | (go_at_call 9; refine CW.out.mono ?_; rintro e w1 ⟨rfl, hb⟩))
  all_goals
    go_ret
    exact ⟨rfl, hb⟩

theorem walk (a0 : Int) (w0 : (Lit.int .i64 a0).wf = true) (w : World) (hL : laidMetH Tryd.prog Rows.utfClassesRow.laid w) (hsh : w.ShapedOpen Tryd.prog) :
    Calls Tryd.prog 5 #[.int .i64 a0] w fun e w' => e = .returned (.bool true) ∧ Below w.heap.size w w' := by
  exact core a0 w (glo_of hL)

set_option maxRecDepth 100000 in
theorem lifted (os : Os) (started : os.Started) (H : Type) (enc : TypeId × Value → H) (F : Stop.Interp) :
    ReturnsInHanded {} Tryd.checked os 5 .any ((OpenSpec.ofChange Rows.utfClassesSpec).preRow enc Tryd.prog Tryd.f5 Rows.utfClassesRow.domain false Rows.utfClassesRow.laid) (((OpenSpec.ofChange Rows.utfClassesSpec).at F).post enc Tryd.prog Tryd.f5 false true false false) := by
  refine returnsInHanded_of_row (C := Tryd.checked) (s := OpenSpec.ofChange Rows.utfClassesSpec) own started (by kernel_rfl) Tryd.func5 ?_ ?_
  · exact ChangeSpec.witness_shaped (enc := enc) (C := Tryd.checked) (os := os) (X := fun w _ => laidMetH Tryd.prog Rows.utfClassesRow.laid w) false (World.laidAll Tryd.prog os Rows.utfClassesRow.laid) #[.int .i64 0] 8 (World.laidAll_os _ _ _)
      (World.shaped_of_ZipB (by kernel_rfl) (by kernel_rfl)) (by kernel_rfl) (by kernel_rfl) (by kernel_rfl)
      (by rw [MakeChecks.laidMetH_plain _ _ _ (by kernel_rfl)]; exact laidMet_laidAll _ (by kernel_rfl) (by kernel_rfl))
  intro W base args ds gs before hval0 hW _ _ _ hL hsh _
  have hval : ∀ (j : Nat) t v, Tryd.f5.params[j]? = some t → args[j]? = some v → Value.okWide Tryd.prog W .any base t v := hval0
  have hW' := hW
  obtain ⟨p, q, hA0, hV, rfl, hfz, hnd⟩ := hW
  have hA : DataW.TrodAll enc Tryd.prog W 0 (fun _ => true) true Tryd.f5.params.toList args.toList ds p := hA0
  rw [Tryd.params5] at hA hval
  obtain ⟨v0, vs0, d0, ds0, p0, q0, hargs, rfl, rfl, h0, r0⟩ := trodAll_cons hA
  obtain ⟨rfl, rfl, rfl⟩ := trodAll_nil r0
  obtain rfl : args = #[v0] := by cases args; simp_all
  obtain ⟨rfl, rfl⟩ := trodVars_none hV
  obtain ⟨a0, rfl, rfl, rfl, w0⟩ := open_int Tryd.underlying3 (hval 0 3 v0 rfl rfl) h0
  clear hA0 hval0
  refine (walk a0 w0 W hL hsh).mono fun e W' ⟨he, bel⟩ => ?_
  subst he
  exact ⟨_, rfl, _, _, _, [], _, [], hW', trodAll_mk1 (shut_bool Tryd.underlying4 _), (trodAll_cons_mk (shut_int Tryd.underlying3 w0) trodAll_mk0), rfl, bel.frame _, fun h => by cases h⟩

theorem said : Rows.UtfClassesSaid :=
  OpenClaim.holds_of_cond 5 Tryd.f5 rfl rfl rfl rfl rfl rfl rfl ⟨rfl, rfl, rfl, rfl, rfl⟩ rfl rfl rfl rfl rfl (by kernel_rfl) Tryd.func5 (by kernel_rfl)
    (of_decide_eq_true (by kernel_rfl)) (by unfold Func.isWrapper; first | (rw [if_pos (by decide +kernel)]; kernel_rfl) | (rw [if_neg (by decide +kernel)]; exact ⟨rfl, rfl⟩))
    (fun os started H enc _ F => by rw [OpenClaim.pre_eq_preRow]; exact lifted os started H enc F)

theorem plain (f : FuncId) (fn : Func) (hf : Tryd.pinned.checked.prog.funcNamed Tryd.f5.name = some f) (hfn : Tryd.pinned.checked.prog.funcs[f]? = some fn) :
    false = Tryd.pinned.checked.prog.looks [] ∧ ∀ (j : Nat) t, fn.params[j]? = some t → Tryd.pinned.checked.prog.wantsStandIn t = false := by
  obtain rfl : f = 5 := Option.some.inj ((show Tryd.prog.funcNamed Tryd.f5.name = some 5 by kernel_rfl).symm.trans hf) |>.symm
  obtain rfl : fn = Tryd.f5 := (Option.some.inj (Tryd.func5.symm.trans hfn)).symm
  refine ⟨by kernel_rfl, fun j t ht => ?_⟩
  rw [Tryd.params5] at ht
  have hm : t ∈ [3] := by simpa using Array.mem_of_getElem? ht
  have hall : ([3].all fun u => !Tryd.prog.wantsStandIn u) = true := by kernel_rfl
  exact (show Tryd.prog.wantsStandIn t = false by simpa using List.all_eq_true.1 hall t hm)

theorem card : Rows.UtfClassesCardSaid :=
  Claim7.holds_tied_plain_at .later [] _ _ _ _ said (fun _ h => by cases h) (by kernel_rfl) (fun _ h => by cases h) utfClasses_row_tie rfl ⟨rfl, rfl⟩ (by kernel_rfl) rfl plain (by kernel_rfl)
end Go.Proofs.YtncmkiejamkklaaDoor.utfClasses
namespace Go.Proofs.YtncmkiejamkklaaDoor
theorem utfClasses_holds : Rows.UtfClassesCardSaid := utfClasses.card
#print axioms utfClasses_holds
end Go.Proofs.YtncmkiejamkklaaDoor
