/-
  What the library's table holds when a law of chapter 15 begins: off the row's list.
-/
import Derived.Test.YthhhepbflggojaaDoorLaidAt
import Derived.Test.YthhhepbflggojaaDoorE2Text
namespace Go.Proofs.YthhhepbflggojaaDoor
open Go.RowKit Go.Lib

theorem glo_of {W : World} (h : laidMetH Tryd.prog Rows.emitChecksRow.laid W) : D2.Glo W := by
  refine ⟨?_⟩
  rw [MakeChecks.laidMetH_plain _ _ _ (by kernel_rfl)] at h
  have e : (Rows.laid_internal_strconv_uint64pow10 : DataW Unit) = tabData .u64 pow10Tab := by kernel_rfl
  exact tab_at h (by rw [← e]; simp [Rows.emitChecksRow]) laysM176.m17 (by kernel_rfl) Tryd.underlying96 Tryd.underlying86 (by kernel_rfl) (by kernel_rfl)
end Go.Proofs.YthhhepbflggojaaDoor
