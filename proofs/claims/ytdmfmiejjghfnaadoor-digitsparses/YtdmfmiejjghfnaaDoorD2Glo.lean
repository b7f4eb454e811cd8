/-
  What the library's variables hold when a law of chapter 2 begins: off the row's list, and off the world's shape.
-/
import Derived.Test.YtdmfmiejjghfnaaDoorLaidAt
import Derived.Test.YtdmfmiejjghfnaaDoorD2Text
namespace Go.Proofs.YtdmfmiejjghfnaaDoor
open Go.RowKit Go.Lib

theorem glo_of {W : World} (h : laidMetH Tryd.prog Rows.digitsTextsRow.laid W) (hs : W.ShapedOpen Tryd.prog) : Glo W := by
  refine ⟨?_, laysM145.s1_3 W hs⟩
  rw [MakeChecks.laidMetH_plain _ _ _ (by kernel_rfl)] at h
  have e : (Rows.laid_internal_strconv_uint64pow10 : DataW Unit) = tabData .u64 pow10Tab := by kernel_rfl
  exact tab_at h (by rw [← e]; simp [Rows.digitsTextsRow]) laysM176.m17 (by kernel_rfl) Tryd.underlying78 Tryd.underlying60 (by kernel_rfl) (by kernel_rfl)
end Go.Proofs.YtdmfmiejjghfnaaDoor
