/-
  Two tags held against one another.
-/
import Derived.Test.YtgmmhlpdkoiheaaDoorS8Rof
import Derived.ChangeKeysEq
namespace Go.Proofs.YtgmmhlpdkoiheaaDoor
open Go.RowKit Go.Deep
theorem eq1_d (d : Nat) (x y : Int) (w : World) : (Op.equalIn (d + 1) 5 (.int .u8 x) (.int .u8 y)).run Tryd.prog w = .ok (x == y) w := by
  simp [Op.equalIn, run_underlying Tryd.underlying5, go_sem]
theorem info_ex8 : ∃ i, Tryd.prog.info? 5 = some i := ⟨_, (info_parts5 info_u8).choose_spec.1⟩
set_option linter.unusedSimpArgs false in
theorem eq4_d (d : Nat) (a0 a1 a2 a3 c0 c1 c2 c3 : Int) (w : World) : (Op.equalIn (d + 1 + 1) 54 (.agg #[.int .u8 a0, .int .u8 a1, .int .u8 a2, .int .u8 a3]) (.agg #[.int .u8 c0, .int .u8 c1, .int .u8 c2, .int .u8 c3])).run Tryd.prog w = .ok (a0 == c0 && (a1 == c1 && (a2 == c2 && a3 == c3))) w := by
  obtain ⟨i, hi⟩ := info_ex8
  have hc : Tryd.prog.cellsOf 5 = 1 := by kernel_rfl
  have hp0 : ∀ (b0 b1 b2 b3 : Int) (w : World), (part 5 #[.int .u8 b0, .int .u8 b1, .int .u8 b2, .int .u8 b3] 0).run Tryd.prog w = .ok (.int .u8 b0) w := fun _ _ _ _ _ => by kernel_rfl
  have hp1 : ∀ (b0 b1 b2 b3 : Int) (w : World), (part 5 #[.int .u8 b0, .int .u8 b1, .int .u8 b2, .int .u8 b3] 1).run Tryd.prog w = .ok (.int .u8 b1) w := fun _ _ _ _ _ => by kernel_rfl
  have hp2 : ∀ (b0 b1 b2 b3 : Int) (w : World), (part 5 #[.int .u8 b0, .int .u8 b1, .int .u8 b2, .int .u8 b3] 2).run Tryd.prog w = .ok (.int .u8 b2) w := fun _ _ _ _ _ => by kernel_rfl
  have hp3 : ∀ (b0 b1 b2 b3 : Int) (w : World), (part 5 #[.int .u8 b0, .int .u8 b1, .int .u8 b2, .int .u8 b3] 3).run Tryd.prog w = .ok (.int .u8 b3) w := fun _ _ _ _ _ => by kernel_rfl
  rw [run_equalIn_array (P := Tryd.prog) (d := d + 1) (hu := Tryd.underlying54) (hi := hi), hc]
  cases h0 : (a0 == c0) <;> cases h1 : (a1 == c1) <;> cases h2 : (a2 == c2) <;> cases h3 : (a3 == c3) <;>
    simp [List.range, List.range.loop, Op.eqItems, hp0, hp1, hp2, hp3, eq1_d, h0, h1, h2, h3, -beq_iff_eq, -beq_eq_false_iff_ne]
theorem eq4 (a0 a1 a2 a3 c0 c1 c2 c3 : Int) (w : World) : (Op.equalIn 10000 54 (.agg #[.int .u8 a0, .int .u8 a1, .int .u8 a2, .int .u8 a3]) (.agg #[.int .u8 c0, .int .u8 c1, .int .u8 c2, .int .u8 c3])).run Tryd.prog w = .ok (a0 == c0 && (a1 == c1 && (a2 == c2 && a3 == c3))) w := eq4_d 9998 a0 a1 a2 a3 c0 c1 c2 c3 w
end Go.Proofs.YtgmmhlpdkoiheaaDoor
