/- Proved: for every list of rectangles RectAll returns true and leaves its arguments as they were (no condition). -/
import Derived.Test.YtaaajbpdnbhghaaRows
import Derived.Test.YtaaajbpdnbhghaaR3RectAllW
import Derived.Test.YtaaajbpdnbhghaaR3Row
import Derived.WalkKit
import Derived.ProofKit
import Derived.OpenShut
import Derived.ShutString
import Derived.ChangeOld
import Derived.Below
namespace Go.Proofs.Ytaaajbpdnbhghaa.rectAll
open Go.ChangeShapes Go.WideShapes Go.ChangeAt Go.RowKit
open Go.ChangeMaps (open_string shut_string)
set_option linter.unusedVariables false

theorem own : ownKnob Try.prog.godebug = none := by kernel_rfl
theorem laidOut : laidOutB Try.prog = true := by kernel_rfl


theorem walk (a : Option Addr) (len cap : Nat) (zs : List Int) (w : World) (hR : RRow w a len cap zs) :
    Calls Try.prog 6 #[.slice a len cap] w fun e w' => e = .returned (.bool true) ∧ Below w.heap.size w w' := by
  obtain ⟨hz, hlc, hcm, hL⟩ := hR
  by_cases hle : len ≤ 200
  · exact rall_few a len cap zs _ _ _ _ _ w hz hle hL (fun w a cap h => all_any a len cap zs w hz hle h) (fun w a cap h => rall_any a len cap zs w hz hle h) (fun hp i w hi => held_any zs len hp i w hi)
  · have hz2 : (zs.take (200 * 4)).length = 200 * 4 := by rw [List.length_take]; omega
    exact rall_many a len cap (zs.take (200 * 4)) _ _ _ _ _ w (by omega) hlc hz2 (hL.take _) (fun w a cap h => all_any a 200 cap _ w hz2 (Nat.le_refl _) h) (fun w a cap h => rall_any a 200 cap _ w hz2 (Nat.le_refl _) h) (fun hp i w hi => held_any _ 200 hp i w hi)

set_option maxRecDepth 100000 in
theorem lifted (os : Os) (started : os.Started) (H : Type) (enc : TypeId × Value → H) :
    ReturnsInHanded {} Try.checked os 6 .any (Rows.rectAllSpec.pre6 enc Try.prog Try.f6 Rows.rectAllRow.domain false) (Rows.rectAllSpec.post enc Try.prog Try.f6 false true false false) := by
  refine returnsInHanded_of_change (C := Try.checked) own started (by kernel_rfl) Try.func6
    (ChangeSpec.witness6 (enc := enc) (C := Try.checked) false ⟨#[], #[.slice none 0 0], []⟩ 8 (by kernel_rfl) (by kernel_rfl) (by kernel_rfl) (by kernel_rfl)) ?_
  intro W base args ds gs before hval0 hW hcnd _
  have hval : ∀ (j : Nat) t v, Try.f6.params[j]? = some t → args[j]? = some v → Value.okWide Try.prog W .any base t v := hval0
  have hW' := hW
  obtain ⟨p, q, hA0, hV, rfl, hfz, hnd⟩ := hW
  have hA : DataW.TrodAll enc Try.prog W 0 (fun _ => true) true Try.f6.params.toList args.toList ds p := hA0
  rw [Try.params6] at hA hval
  obtain ⟨v0, vs0, d0, ds0, p0, q0, hargs, rfl, rfl, h0, r0⟩ := trodAll_cons hA
  obtain ⟨rfl, rfl, rfl⟩ := trodAll_nil r0
  obtain rfl : args = #[v0] := by cases args; simp_all
  obtain ⟨rfl, rfl⟩ := trodVars_none hV
  have k0 := h0
  have lt0 : ∀ x ∈ p0, x.block < W.heap.size := by obtain ⟨m, hm⟩ := k0; exact DataW.trod_lt m _ _ _ hm
  obtain ⟨a, len, cap, zs, rfl, hR⟩ := open_rects (hval 0 35 v0 rfl rfl) h0
  clear hA0 hval0
  refine (walk a len cap zs W hR).mono fun e W' ⟨he, bel⟩ => ?_
  subst he
  exact ⟨_, rfl, _, _, _, [], _, [], hW', trodAll_mk1 (shut_bool Try.underlying4 _), (trodAll_cons_mk (Below.trod laidOut (by kernel_rfl) (of_decide_eq_true (by kernel_rfl)) k0 bel lt0) trodAll_mk0), rfl, bel.frame _, fun h => by cases h⟩

theorem proved : Rows.RectAllSaid :=
  OpenClaim.holds_of_wide 6 Try.f6 rfl rfl rfl rfl rfl rfl rfl ⟨rfl, rfl, rfl, rfl, rfl⟩ rfl rfl rfl rfl rfl (by kernel_rfl) Try.func6 (by kernel_rfl)
    (of_decide_eq_true (by kernel_rfl)) (by unfold Func.isWrapper; first | (rw [if_pos (by decide +kernel)]; kernel_rfl) | (rw [if_neg (by decide +kernel)]; exact ⟨rfl, rfl⟩))
    (fun os started H enc _ => lifted os started H enc)
end Go.Proofs.Ytaaajbpdnbhghaa.rectAll
namespace Go.Proofs.Ytaaajbpdnbhghaa
theorem rectAll_holds : Rows.RectAllSaid := rectAll.proved
#print axioms rectAll_holds
end Go.Proofs.Ytaaajbpdnbhghaa
