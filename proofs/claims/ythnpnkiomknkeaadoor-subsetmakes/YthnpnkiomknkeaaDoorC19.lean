/-
  Joined: M9Bld.
-/
import Derived.Lib.BufferWrite
import Derived.Lib.SlBuf
import Derived.Test.YthnpnkiomknkeaaDoorC11
import Derived.Test.YthnpnkiomknkeaaDoorC12
namespace Go.Proofs.YthnpnkiomknkeaaDoor
open Go.RowKit Go.Deep
set_option linter.unusedVariables false
theorem good_in {m : Mt} (h : goodB m = true) : (16 ≤ m.up ∧ m.up ≤ 16384) ∧ (∀ x ∈ [m.sc, m.de, m.ga], -32768 ≤ x ∧ x ≤ 32767) ∧ (∀ x ∈ [m.b0, m.b1, m.b2, m.b3], -32768 ≤ x ∧ x ≤ 32767) ∧ (1 ≤ m.ad.length ∧ m.ad.length ≤ 4096) ∧ m.be.length = m.ad.length ∧ (∀ x ∈ m.ad, 0 ≤ x ∧ x ≤ 65535) ∧ (∀ x ∈ m.be, -32768 ≤ x ∧ x ≤ 32767) := by
  have al : ∀ (lo hi : Int) (zs : List Int), wiB lo hi zs = true → ∀ x ∈ zs, lo ≤ x ∧ x ≤ hi := fun lo hi zs h x hx => by
    unfold wiB at h
    rw [List.all_eq_true] at h
    simpa using h x hx
  unfold goodB at h
  simp only [Bool.and_eq_true] at h
  obtain ⟨h1, h2, h3, h4, h5, h6, h7⟩ := h
  refine ⟨al _ _ _ h1 _ (by simp), al _ _ _ h2, al _ _ _ h3, ?_, by simp at h5; omega, al _ _ _ h6, al _ _ _ h7⟩
  have := al _ _ _ h4 (m.ad.length : Int) (by simp)
  omega
end Go.Proofs.YthnpnkiomknkeaaDoor
