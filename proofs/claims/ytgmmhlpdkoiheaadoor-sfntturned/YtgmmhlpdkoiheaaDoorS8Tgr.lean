/-
  What the landed tagsRise answers of one row.
-/
import Derived.Test.YtgmmhlpdkoiheaaDoorS8Cmp
import Derived.Deep.QuietTactic
import Derived.BigQuiet
import Derived.WalkMore
namespace Go.Proofs.YtgmmhlpdkoiheaaDoor
open Go.RowKit Go.Deep
set_option linter.unusedVariables false

theorem tx_0 (x0 x1 x2 x3 : Int) (w : World) : (Instr.index 54 (.agg #[.int .u8 x0, .int .u8 x1, .int .u8 x2, .int .u8 x3]) (.int .i64 0)).run Tryd.prog w = .ok (.int .u8 x0) w := by kernel_rfl
theorem tx_1 (x0 x1 x2 x3 : Int) (w : World) : (Instr.index 54 (.agg #[.int .u8 x0, .int .u8 x1, .int .u8 x2, .int .u8 x3]) (.int .i64 1)).run Tryd.prog w = .ok (.int .u8 x1) w := by kernel_rfl
theorem tx_2 (x0 x1 x2 x3 : Int) (w : World) : (Instr.index 54 (.agg #[.int .u8 x0, .int .u8 x1, .int .u8 x2, .int .u8 x3]) (.int .i64 2)).run Tryd.prog w = .ok (.int .u8 x2) w := by kernel_rfl
theorem tx_3 (x0 x1 x2 x3 : Int) (w : World) : (Instr.index 54 (.agg #[.int .u8 x0, .int .u8 x1, .int .u8 x2, .int .u8 x3]) (.int .i64 3)).run Tryd.prog w = .ok (.int .u8 x3) w := by kernel_rfl
/- the tag abcd -/
abbrev rw1 (sum pl ln : Int) : Rw := ⟨97, 98, 99, 100, sum, pl, ln⟩
abbrev c1 (sum pl ln : Int) : Array Value := #[.int .u8 97, .int .u8 98, .int .u8 99, .int .u8 100, .int .i64 sum, .int .i64 pl, .int .i64 ln]
structure C7 (w : World) (b : Nat) (sum pl ln : Int) : Prop where
  lt : b < w.heap.size
  g0 : w.cell? ⟨b, 0, none⟩ = some (.int .u8 97)
  g1 : w.cell? ⟨b, 1, none⟩ = some (.int .u8 98)
  g2 : w.cell? ⟨b, 2, none⟩ = some (.int .u8 99)
  g3 : w.cell? ⟨b, 3, none⟩ = some (.int .u8 100)
  g4 : w.cell? ⟨b, 4, none⟩ = some (.int .i64 sum)
  g5 : w.cell? ⟨b, 5, none⟩ = some (.int .i64 pl)
  g6 : w.cell? ⟨b, 6, none⟩ = some (.int .i64 ln)
theorem C7.of {w : World} {b : Nat} {sum pl ln : Int} {t : TypeId} (h : Blk w b (c1 sum pl ln) t) : C7 w b sum pl ln := ⟨h.lt, h.cell 0, h.cell 1, h.cell 2, h.cell 3, h.cell 4, h.cell 5, h.cell 6⟩
theorem C7.below {w w' : World} {b : Nat} {sum pl ln : Int} (h : C7 w b sum pl ln) (hb : Below w.heap.size w w') : C7 w' b sum pl ln := by
  have e : ∀ o, w'.cell? ⟨b, o, none⟩ = w.cell? ⟨b, o, none⟩ := fun o => hb.cell (p := ⟨b, o, none⟩) h.lt
  exact ⟨Nat.lt_of_lt_of_le h.lt hb.size, by rw [e]; exact h.g0, by rw [e]; exact h.g1, by rw [e]; exact h.g2, by rw [e]; exact h.g3, by rw [e]; exact h.g4, by rw [e]; exact h.g5, by rw [e]; exact h.g6⟩
set_option maxRecDepth 8000 in
set_option maxHeartbeats 2000000 in
theorem tagsRise_one (sum pl ln : Int) (b c : Nat) (w : World) (h : C7 w b sum pl ln) :
    Calls Tryd.prog 46 #[.slice (some ⟨b, 0, none⟩) 1 c] w fun e w' => e = .returned (.bool true) ∧ Below w.heap.size w w' := by
  have i0 := tx_0
  have i1 := tx_1
  have i2 := tx_2
  have i3 := tx_3
  obtain ⟨hb, g0, g1, g2, g3, g4, g5, g6⟩ := h
  have hne1 : b ≠ w.heap.size := by omega
  have hne2 : b ≠ w.heap.size + 1 := by omega
  go_enter Tryd.func46, Tryd.ntmps46
  go_wp2_with fail
  go_step3
  go_wp2_with fail
  go_step3
  go_wp2_with fail
  refine wp_loop_rounds 2 ?_
  rw [rounds_succ]
  go_wp2_with fail
  refine wp_loop_rounds 5 ?_
  rw [rounds_succ]; go_wp2_with fail
  rw [rounds_succ]; go_wp2_with fail
  rw [rounds_succ]; go_wp2_with fail
  rw [rounds_succ]; go_wp2_with fail
  rw [rounds_succ]; go_wp2_with fail
  rename_i kk0
  have HA := hide kk0
  clear kk0
  have k0 := (Blk.new w #[.int .u8 0, .int .u8 0, .int .u8 0, .int .u8 0] 54).below ((Below.refl _ _).alloc (Nat.le_refl _) (.cells (c1 sum pl ln) 56))
  have k1 := Blk.new (w.alloc (.cells #[.int .u8 0, .int .u8 0, .int .u8 0, .int .u8 0] 54)) (c1 sum pl ln) 56
  rw [show (w.alloc (.cells #[.int .u8 0, .int .u8 0, .int .u8 0, .int .u8 0] 54)).heap.size = w.heap.size + 1 by simp] at k1
  have hb1 : Below w.heap.size w ((w.alloc (.cells #[.int .u8 0, .int .u8 0, .int .u8 0, .int .u8 0] 54)).alloc (.cells (c1 sum pl ln) 56)) := ((Below.refl _ _).alloc (Nat.le_refl _) _).alloc (by simp) _
  generalize (w.alloc (.cells #[.int .u8 0, .int .u8 0, .int .u8 0, .int .u8 0] 54)).alloc (.cells (c1 sum pl ln) 56) = V at k0 k1 hb1 ⊢
  have hcv : Extern.BytealgCompare.cmp ⟨([0, 0, 0, 0] : List UInt8).toArray⟩ ⟨([97, 98, 99, 100] : List UInt8).toArray⟩ = -1 := by decide
  have CC := hide (fun n => compare_any w.heap.size 0 (w.heap.size + 1) 0 4 4 [0, 0, 0, 0] [97, 98, 99, 100] (V.drewN n) (fun j x hx => by
      have hc : (V.drewN n).cell? ⟨w.heap.size, 0 + j, none⟩ = V.cell? ⟨w.heap.size, 0 + j, none⟩ := rfl
      rw [hc, k0.cell]
      match j, hx with
      | 0, hx => cases hx; rfl
      | 1, hx => cases hx; rfl
      | 2, hx => cases hx; rfl
      | 3, hx => cases hx; rfl
      | j + 4, hx => cases hx) (fun j x hx => by
      have hc : (V.drewN n).cell? ⟨w.heap.size + 1, 0 + j, none⟩ = V.cell? ⟨w.heap.size + 1, 0 + j, none⟩ := rfl
      rw [hc, k1.cell]
      match j, hx with
      | 0, hx => cases hx; rfl
      | 1, hx => cases hx; rfl
      | 2, hx => cases hx; rfl
      | 3, hx => cases hx; rfl
      | j + 4, hx => cases hx))
  rw [hcv] at CC
  have HB1 := hide hb1
  obtain ⟨q0, q1, q2, q3⟩ : (V.cell? ⟨w.heap.size, 0, none⟩ = some (.int .u8 0) ∧ V.cell? ⟨w.heap.size, 1, none⟩ = some (.int .u8 0) ∧ V.cell? ⟨w.heap.size, 2, none⟩ = some (.int .u8 0) ∧ V.cell? ⟨w.heap.size, 3, none⟩ = some (.int .u8 0)) := ⟨k0.cell 0, k0.cell 1, k0.cell 2, k0.cell 3⟩
  obtain ⟨r0, r1, r2, r3⟩ : (V.cell? ⟨w.heap.size + 1, 0, none⟩ = some (.int .u8 97) ∧ V.cell? ⟨w.heap.size + 1, 1, none⟩ = some (.int .u8 98) ∧ V.cell? ⟨w.heap.size + 1, 2, none⟩ = some (.int .u8 99) ∧ V.cell? ⟨w.heap.size + 1, 3, none⟩ = some (.int .u8 100)) := ⟨k1.cell 0, k1.cell 1, k1.cell 2, k1.cell 3⟩
  have f0 := k0.frozen 0
  have f1 := k0.frozen 1
  have f2 := k0.frozen 2
  have f3 := k0.frozen 3
  clear k0 k1 hb1 hcv g0 g1 g2 g3 g4 g5 g6 hne1 hne2 hb
  go_quiet ((go_at_call 58; exact Calls.quiet_of_same (CC.out _)))
  refine HA.out _ _ ?_
  go_wp2_with fail
  rw [rounds_succ]
  go_wp2_with fail
  rw [Exit.noGoto_ret]
  go_ret
  refine ⟨rfl, ?_⟩
  exact ((((below_drewN HB1.out _).setCell (p := ⟨w.heap.size, 0, none⟩) (Nat.le_refl _) _).setCell (p := ⟨w.heap.size, 1, none⟩) (Nat.le_refl _) _).setCell (p := ⟨w.heap.size, 2, none⟩) (Nat.le_refl _) _).setCell (p := ⟨w.heap.size, 3, none⟩) (Nat.le_refl _) _
end Go.Proofs.YtgmmhlpdkoiheaaDoor
