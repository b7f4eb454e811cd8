/-
  What the library's two tables hold when a law of chapter 4 begins: off the row's list.
-/
import Derived.Lib.LaidU8T
import Derived.MakeChecks
import Derived.Test.YtpmdekhjodhdmaaDoorRows
import Derived.Test.YtpmdekhjodhdmaaDoorR10
namespace Go.Proofs.YtpmdekhjodhdmaaDoor
open Go.RowKit
open Go.Lib hiding intOf

theorem u8extra : U8Extra Tryd.prog lays197_ren := ⟨by kernel_rfl, by kernel_rfl, by kernel_rfl, by kernel_rfl, by kernel_rfl, by kernel_rfl, by kernel_rfl⟩
theorem glo_of {W : World} (h : laidMetH Tryd.prog Rows.marksScansRow.laid W) : Glo W := by
  rw [MakeChecks.laidMetH_plain _ _ _ (by kernel_rfl)] at h
  have e1 : (Rows.laid_unicode_utf8_acceptRanges : DataW Unit) = acceptData := by kernel_rfl
  have e2 : Rows.laid_unicode_utf8_first = firstData := by kernel_rfl
  exact utf8Tabs_of_readsT { lays197 with } u8extra (laidMet.reads h (by rw [← e2]; simp [Rows.marksScansRow])) (laidMet.reads h (by rw [← e1]; simp [Rows.marksScansRow]))
end Go.Proofs.YtpmdekhjodhdmaaDoor
