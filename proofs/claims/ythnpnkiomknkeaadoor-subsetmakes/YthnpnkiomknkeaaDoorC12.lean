/-
  Joined: M9Rd.
-/
import Derived.Laws.EntriesVeiled
import Derived.Test.YthnpnkiomknkeaaDoorC11
namespace Go.Proofs.YthnpnkiomknkeaaDoor
open Go.RowKit Go.Deep
set_option linter.unusedVariables false
abbrev hV (hh : ByteArray) : Nat := n2 hh.data.toList 34
abbrev zeroC : Array Value := #[.int .i64 0, .int .i64 0, .int .i64 0, .int .i64 0, .int .i64 0, .int .i64 0, .int .i64 0, .int .i64 0, .bool false, .slice none 0 0, .slice none 0 0]
theorem store11 {w : World} {r : Nat} (h : Blk w r zeroC 25) (v0 v1 v2 v3 v4 v5 v6 v7 v8 v9 v10 : Value) :
    Blk (((((((((((w.setCell ⟨r, 0, none⟩ v0).setCell ⟨r, 1, none⟩ v1).setCell ⟨r, 2, none⟩ v2).setCell ⟨r, 3, none⟩ v3).setCell ⟨r, 4, none⟩ v4).setCell ⟨r, 5, none⟩ v5).setCell ⟨r, 6, none⟩ v6).setCell ⟨r, 7, none⟩ v7).setCell ⟨r, 8, none⟩ v8).setCell ⟨r, 9, none⟩ v9).setCell ⟨r, 10, none⟩ v10) r #[v0, v1, v2, v3, v4, v5, v6, v7, v8, v9, v10] 25 ∧ But r w (((((((((((w.setCell ⟨r, 0, none⟩ v0).setCell ⟨r, 1, none⟩ v1).setCell ⟨r, 2, none⟩ v2).setCell ⟨r, 3, none⟩ v3).setCell ⟨r, 4, none⟩ v4).setCell ⟨r, 5, none⟩ v5).setCell ⟨r, 6, none⟩ v6).setCell ⟨r, 7, none⟩ v7).setCell ⟨r, 8, none⟩ v8).setCell ⟨r, 9, none⟩ v9).setCell ⟨r, 10, none⟩ v10) := by
  refine ⟨?_, ((((((((((((But.refl r w).trans (But.setCell r _ 0 v0)).trans (But.setCell r _ 1 v1)).trans (But.setCell r _ 2 v2)).trans (But.setCell r _ 3 v3)).trans (But.setCell r _ 4 v4)).trans (But.setCell r _ 5 v5)).trans (But.setCell r _ 6 v6)).trans (But.setCell r _ 7 v7)).trans (But.setCell r _ 8 v8)).trans (But.setCell r _ 9 v9)).trans (But.setCell r _ 10 v10))⟩
  have := (Blk.set (Blk.set (Blk.set (Blk.set (Blk.set (Blk.set (Blk.set (Blk.set (Blk.set (Blk.set (Blk.set h 0 v0) 1 v1) 2 v2) 3 v3) 4 v4) 5 v5) 6 v6) 7 v7) 8 v8) 9 v9) 10 v10)
  simpa [zeroC] using this
end Go.Proofs.YthnpnkiomknkeaaDoor
