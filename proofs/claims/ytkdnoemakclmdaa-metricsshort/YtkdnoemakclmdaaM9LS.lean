/-
  The law MetricsShort, walked: both cases.
-/
import Derived.Test.YtkdnoemakclmdaaM9LSa
import Derived.Test.YtkdnoemakclmdaaM9LSb
namespace Go.Proofs.Ytkdnoemakclmdaa
open Go.RowKit Go.Deep
set_option linter.unusedVariables false

theorem short_walk (m : Mt) (aa ab : Option Addr) (na ca nb cb : Nat) (z : Int) (w : World) (hM : MIn w m aa na ab nb) (hz : -9223372036854775808 ≤ z ∧ z ≤ 9223372036854775807) :
    Calls Try.prog 3 #[.agg (mcs m (.slice aa na ca) (.slice ab nb cb)), .int .i64 z] w fun e w' => e = .returned (.bool true) ∧ Below w.heap.size w w' := by
  by_cases ho : lrB na nb = true ∨ goodB m = false ∨ z < 1 ∨ (na : Int) < z
  · exact short_out m aa ab na ca nb cb z w hM hz ho
  · have hl : lrB na nb = false := by
      cases h : lrB na nb with
      | false => rfl
      | true => exact absurd (Or.inl h) ho
    have hg : goodB m = true := by
      cases h : goodB m with
      | true => rfl
      | false => exact absurd (Or.inr (Or.inl h)) ho
    have h1 : ¬ z < 1 := fun h => ho (Or.inr (Or.inr (Or.inl h)))
    have h2 : ¬ (na : Int) < z := fun h => ho (Or.inr (Or.inr (Or.inr h)))
    obtain ⟨_, _, _, _, g5, _, _⟩ := good_in hg
    have hbn : nb = na := by have := hM.hna; have := hM.hnb; omega
    subst hbn
    obtain ⟨h, rfl⟩ : ∃ h : Nat, z = (h : Int) := ⟨z.toNat, by omega⟩
    exact short_in m aa ab nb ca cb h w hM hl hg (by omega) (by omega)
end Go.Proofs.Ytkdnoemakclmdaa
