/-
  What the variable head holds when a law of chapter 8 begins: off the row's list.
-/
import Derived.Test.YtpaadbnlhapdbaaGreatDoorL01
import Derived.Test.YtpaadbnlhapdbaaGreatDoorL40
namespace Go.Proofs.YtpaadbnlhapdbaaGreatDoor.S8
open Go.RowKit Go.Lib

theorem glo_of {W : World} (h : laidMetH Tryz.prog Rows.faceLoadsRow.laid W) : Glo8 W := by
  rw [MakeChecks.laidMetH_plain _ _ _ (by kernel_rfl)] at h
  have e : (Rows.laid_colophon_sfnt_head : DataW Unit) = tabData .u8 [104, 101, 97, 100] := by kernel_rfl
  have hg : Tryz.prog.globalNamed "colophon/sfnt.head" = some 1 := by kernel_rfl
  have ht : TabIs Tryz.prog W "colophon/sfnt.head" .u8 [104, 101, 97, 100] := tab_at h (by rw [← e]; simp [Rows.faceLoadsRow]) hg (by kernel_rfl) Tryz.underlying148 Tryz.underlying5 (by kernel_rfl) (by kernel_rfl)
  unfold TabIs World.var? at ht
  rw [hg] at ht
  simp only [Option.bind_some] at ht
  cases hh : W.heap[(1 : Nat)]? with
  | none => rw [hh] at ht; cases ht
  | some o =>
    rw [hh] at ht
    cases o with
    | cells cs t f =>
      simp only [Option.some.injEq] at ht
      have hl : (1 : Nat) < W.heap.size := by
        rcases Nat.lt_or_ge 1 W.heap.size with h | h
        · exact h
        · rw [Array.getElem?_eq_none h] at hh; cases hh
      have hc : ∀ j, W.cell? ⟨1, j, none⟩ = cs[j]? := fun j => by
        unfold World.cell?
        simp [hh]
      subst ht
      exact ⟨hl, by rw [hc]; rfl, by rw [hc]; rfl, by rw [hc]; rfl, by rw [hc]; rfl⟩
    | _ => cases ht
end Go.Proofs.YtpaadbnlhapdbaaGreatDoor.S8
