/- Proved: for every int DigitsBack returns true and leaves its arguments as they were (no condition but the card's own: Go's library's tables read as the program's text lays them). -/
import Derived.Test.YtdmfmiejjghfnaaDoorCards
import Derived.Test.YtdmfmiejjghfnaaDoorTie
import Derived.Test.YtdmfmiejjghfnaaDoorD2Wakes
import Derived.Test.YtdmfmiejjghfnaaDoorD2Glo
import Derived.Test.YtdmfmiejjghfnaaDoorD2Back
import Derived.WalkKit
import Derived.ProofKit
import Derived.OpenShut
import Derived.ShutString
import Derived.Deep.DeepHandedRow
import Derived.LaidLaws
import Derived.Lay
import Derived.MakeChecks
import Derived.SevenTiedAt
namespace Go.Proofs.YtdmfmiejjghfnaaDoor.digitsBack
open Go.ChangeShapes Go.WideShapes Go.ChangeAt Go.RowKit
open Go.ChangeMaps (open_string shut_string)
set_option linter.unusedVariables false

theorem own : ownKnob Tryd.prog.godebug = none := by kernel_rfl

theorem core_in (x : Int) (w : World) (hg : Glo w) (h1 : -1099511627776 ≤ x) (h2 : x ≤ 1099511627776) :
    Calls Tryd.prog 6 #[.int .i64 x] w fun e w' => e = .returned (.bool true) ∧ Below w.heap.size w w' := by
  have hin := inB_t h1 h2
  have c1 := text_any x w hg
  have cP := fun w' (h : Below w.heap.size w w') => parse_any ⟨(textL x).toArray⟩ w' (hg.below h)
  have cN := fun w' (h : Below w.heap.size w w') => near_any ⟨(textL x).toArray⟩ w' (hg.below h)
  have CW := hide (fun w' (h : Below w.heap.size w w') => wakes_any w' (hg.below h))
  have hb := back_any x hin
  obtain ⟨hp1, hp2⟩ := back_parse x hin
  have hl := textL_len x hin
  unfold textV at c1
  rw [hin, if_pos rfl] at c1
  simp only [hb, hp1, hp2] at cP cN
  have hsz : ((⟨(textL x).toArray⟩ : ByteArray).size : Int) ≤ 26 := by rw [Lib.size_mk]; omega
  generalize (⟨(textL x).toArray⟩ : ByteArray) = t at *
  have C1 := hide c1
  have CP := hide cP
  have CN := hide cN
  clear c1 cP cN hg hb hp1 hp2 hl hin
  go_enter Tryd.func6, Tryd.ntmps6
  go_wp2_with (first | (go_at_call 9; refine C1.out.mono ?_; rintro e w1 ⟨rfl, hb1⟩) | (go_at_call 12; refine (CP.out _ hb1).mono ?_; rintro e w2 ⟨rfl, hb2'⟩; have hb2 := hb1.trans (hb2'.mono hb1.size); clear hb2') | (go_at_call 14; refine (CN.out _ hb2).mono ?_; rintro e w3 ⟨rfl, hb3'⟩; have hb3 := hb2.trans (hb3'.mono hb2.size); clear hb3') | (go_at_call 11; refine (CW.out _ hb3).mono ?_; rintro e w4 ⟨rfl, hb4'⟩; have hb4 := hb3.trans (hb4'.mono hb3.size); clear hb4'))
  go_ret
  exact ⟨rfl, hb4⟩
theorem core_out (x : Int) (w : World) (hg : Glo w) (h : x < -1099511627776 ∨ (-1099511627776 ≤ x ∧ decide (x ≤ 1099511627776) = false)) :
    Calls Tryd.prog 6 #[.int .i64 x] w fun e w' => e = .returned (.bool true) ∧ Below w.heap.size w w' := by
  have hin : inB x = false := inB_f (by simp at h; omega)
  have c1 := text_any x w hg
  have CW := hide (fun w' (h : Below w.heap.size w w') => wakes_any w' (hg.below h))
  unfold textV at c1
  rw [hin, if_neg (by simp)] at c1
  have C1 := hide c1
  clear c1 hg hin
  rcases h with h | ⟨h, h'⟩
  all_goals
    go_enter Tryd.func6, Tryd.ntmps6
    go_wp2_with (first | (go_at_call 9; refine C1.out.mono ?_; rintro e w1 ⟨rfl, hb1⟩) | (go_at_call 11; refine (CW.out _ hb1).mono ?_; rintro e w4 ⟨rfl, hb4'⟩; have hb4 := hb1.trans (hb4'.mono hb1.size); clear hb4'))
    go_ret
    exact ⟨rfl, hb4⟩

theorem walk (a0 : Int) (w0 : (Lit.int .i64 a0).wf = true) (w : World) (hL : laidMetH Tryd.prog Rows.digitsBackRow.laid w) (hsh : w.ShapedOpen Tryd.prog) :
    Calls Tryd.prog 6 #[.int .i64 a0] w fun e w' => e = .returned (.bool true) ∧ Below w.heap.size w w' := by
  have hg := glo_of hL hsh
  by_cases h1 : -1099511627776 ≤ a0
  · by_cases h2 : a0 ≤ 1099511627776
    · exact core_in a0 w hg h1 h2
    · exact core_out a0 w hg (Or.inr ⟨h1, by simp; omega⟩)
  · exact core_out a0 w hg (Or.inl (by omega))

set_option maxRecDepth 100000 in
theorem lifted (os : Os) (started : os.Started) (H : Type) (enc : TypeId × Value → H) (F : Stop.Interp) :
    ReturnsInHanded {} Tryd.checked os 6 .any ((OpenSpec.ofChange Rows.digitsBackSpec).preRow enc Tryd.prog Tryd.f6 Rows.digitsBackRow.domain false Rows.digitsBackRow.laid) (((OpenSpec.ofChange Rows.digitsBackSpec).at F).post enc Tryd.prog Tryd.f6 false true false false) := by
  refine returnsInHanded_of_row (C := Tryd.checked) (s := OpenSpec.ofChange Rows.digitsBackSpec) own started (by kernel_rfl) Tryd.func6 ?_ ?_
  · exact ChangeSpec.witness_shaped (enc := enc) (C := Tryd.checked) (os := os) (X := fun w _ => laidMetH Tryd.prog Rows.digitsBackRow.laid w) false (World.laidAll Tryd.prog os Rows.digitsBackRow.laid) #[.int .i64 0] 8 (World.laidAll_os _ _ _)
      (World.shaped_of_ZipB (by kernel_rfl) (by kernel_rfl)) (by kernel_rfl) (by kernel_rfl) (by kernel_rfl)
      (by rw [MakeChecks.laidMetH_plain _ _ _ (by kernel_rfl)]; exact laidMet_laidAll _ (by kernel_rfl) (by kernel_rfl))
  intro W base args ds gs before hval0 hW _ _ _ hL hsh _
  have hval : ∀ (j : Nat) t v, Tryd.f6.params[j]? = some t → args[j]? = some v → Value.okWide Tryd.prog W .any base t v := hval0
  have hW' := hW
  obtain ⟨p, q, hA0, hV, rfl, hfz, hnd⟩ := hW
  have hA : DataW.TrodAll enc Tryd.prog W 0 (fun _ => true) true Tryd.f6.params.toList args.toList ds p := hA0
  rw [Tryd.params6] at hA hval
  obtain ⟨v0, vs0, d0, ds0, p0, q0, hargs, rfl, rfl, h0, r0⟩ := trodAll_cons hA
  obtain ⟨rfl, rfl, rfl⟩ := trodAll_nil r0
  obtain rfl : args = #[v0] := by cases args; simp_all
  obtain ⟨rfl, rfl⟩ := trodVars_none hV
  obtain ⟨a0, rfl, rfl, rfl, w0⟩ := open_int Tryd.underlying3 (hval 0 3 v0 rfl rfl) h0
  clear hA0 hval0
  refine (walk a0 w0 W hL hsh).mono fun e W' ⟨he, bel⟩ => ?_
  subst he
  exact ⟨_, rfl, _, _, _, [], _, [], hW', trodAll_mk1 (shut_bool Tryd.underlying4 _), (trodAll_cons_mk (shut_int Tryd.underlying3 w0) trodAll_mk0), rfl, bel.frame _, fun h => by cases h⟩

theorem said : Rows.DigitsBackSaid :=
  OpenClaim.holds_of_cond 6 Tryd.f6 rfl rfl rfl rfl rfl rfl rfl ⟨rfl, rfl, rfl, rfl, rfl⟩ rfl rfl rfl rfl rfl (by kernel_rfl) Tryd.func6 (by kernel_rfl)
    (of_decide_eq_true (by kernel_rfl)) (by unfold Func.isWrapper; first | (rw [if_pos (by decide +kernel)]; kernel_rfl) | (rw [if_neg (by decide +kernel)]; exact ⟨rfl, rfl⟩))
    (fun os started H enc _ F => by rw [OpenClaim.pre_eq_preRow]; exact lifted os started H enc F)

theorem plain (f : FuncId) (fn : Func) (hf : Tryd.pinned.checked.prog.funcNamed Tryd.f6.name = some f) (hfn : Tryd.pinned.checked.prog.funcs[f]? = some fn) :
    false = Tryd.pinned.checked.prog.looks [] ∧ ∀ (j : Nat) t, fn.params[j]? = some t → Tryd.pinned.checked.prog.wantsStandIn t = false := by
  obtain rfl : f = 6 := Option.some.inj ((show Tryd.prog.funcNamed Tryd.f6.name = some 6 by kernel_rfl).symm.trans hf) |>.symm
  obtain rfl : fn = Tryd.f6 := (Option.some.inj (Tryd.func6.symm.trans hfn)).symm
  refine ⟨by kernel_rfl, fun j t ht => ?_⟩
  rw [Tryd.params6] at ht
  have hm : t ∈ [3] := by simpa using Array.mem_of_getElem? ht
  have hall : ([3].all fun u => !Tryd.prog.wantsStandIn u) = true := by kernel_rfl
  exact (show Tryd.prog.wantsStandIn t = false by simpa using List.all_eq_true.1 hall t hm)

theorem card : Rows.DigitsBackCardSaid :=
  Claim7.holds_tied_plain_at .later [] _ _ _ _ said (fun _ h => by cases h) (by kernel_rfl) (fun _ h => by cases h) digitsBack_row_tie rfl ⟨rfl, rfl⟩ (by kernel_rfl) rfl plain (by kernel_rfl)
end Go.Proofs.YtdmfmiejjghfnaaDoor.digitsBack
namespace Go.Proofs.YtdmfmiejjghfnaaDoor
theorem digitsBack_holds : Rows.DigitsBackCardSaid := digitsBack.card
#print axioms digitsBack_holds
end Go.Proofs.YtdmfmiejjghfnaaDoor
