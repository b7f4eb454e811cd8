/-
  The law OutMore, walked.
-/
import Derived.Test.YtlnkddmpcicejaaDoorQF
import Derived.Test.YtlnkddmpcicejaaDoorP6Oc
import Derived.Test.YtlnkddmpcicejaaDoorP6Op
import Derived.Test.YtlnkddmpcicejaaDoorQA
namespace Go.Proofs.YtlnkddmpcicejaaDoor
open Go.RowKit Go.Deep
set_option linter.unusedVariables false

theorem lyZ_lenM (l : List EP) (root : Int) : (lyZ l root).length ≤ 4097 := by
  by_cases h : lyE l root = 0
  · obtain ⟨q, hq, hz⟩ := lyE_ok h
    have hl := layG_lenM l 0 _ _ q hq
    have hck : ckV l root = 0 := by
      unfold lyE at h
      split at h
      · contradiction
      · rename_i hc; exact Decidable.not_not.1 hc
    have := ck_ok hck
    rw [hz]
    simp at hl ⊢
    omega
  · rw [lyE_bad h]; simp
end Go.Proofs.YtlnkddmpcicejaaDoor
