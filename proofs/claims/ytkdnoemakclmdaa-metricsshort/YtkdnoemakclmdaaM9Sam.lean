/-
  What the reference's Same, keep's Same and the law's same answer of what is alike: true.
-/
import Derived.Test.YtkdnoemakclmdaaM9Opn
import Derived.RegionTactic
import Derived.ChangeAlike
import Derived.ChangeKeysEq
namespace Go.Proofs.Ytkdnoemakclmdaa
open Go.RowKit Go.Deep
set_option linter.unusedVariables false

theorem eqi_d (d : Nat) (x y : Int) (w : World) : (Op.equalIn (d + 1) 3 (.int .i64 x) (.int .i64 y)).run Try.prog w = .ok (x == y) w := by
  simp [Op.equalIn, run_underlying Try.underlying3, go_sem]
theorem info_exi : ∃ i, Try.prog.info? 3 = some i := ⟨_, (info_parts5 info_int).choose_spec.1⟩
set_option linter.unusedSimpArgs false in
theorem eqb_d (d : Nat) (a0 a1 a2 a3 : Int) (w : World) : (Op.equalIn (d + 1 + 1) 22 (.agg #[.int .i64 a0, .int .i64 a1, .int .i64 a2, .int .i64 a3]) (.agg #[.int .i64 a0, .int .i64 a1, .int .i64 a2, .int .i64 a3])).run Try.prog w = .ok true w := by
  obtain ⟨i, hi⟩ := info_exi
  have hc : Try.prog.cellsOf 3 = 1 := by kernel_rfl
  have hp0 : ∀ (b0 b1 b2 b3 : Int) (w : World), (part 3 #[.int .i64 b0, .int .i64 b1, .int .i64 b2, .int .i64 b3] 0).run Try.prog w = .ok (.int .i64 b0) w := fun _ _ _ _ _ => by kernel_rfl
  have hp1 : ∀ (b0 b1 b2 b3 : Int) (w : World), (part 3 #[.int .i64 b0, .int .i64 b1, .int .i64 b2, .int .i64 b3] 1).run Try.prog w = .ok (.int .i64 b1) w := fun _ _ _ _ _ => by kernel_rfl
  have hp2 : ∀ (b0 b1 b2 b3 : Int) (w : World), (part 3 #[.int .i64 b0, .int .i64 b1, .int .i64 b2, .int .i64 b3] 2).run Try.prog w = .ok (.int .i64 b2) w := fun _ _ _ _ _ => by kernel_rfl
  have hp3 : ∀ (b0 b1 b2 b3 : Int) (w : World), (part 3 #[.int .i64 b0, .int .i64 b1, .int .i64 b2, .int .i64 b3] 3).run Try.prog w = .ok (.int .i64 b3) w := fun _ _ _ _ _ => by kernel_rfl
  rw [run_equalIn_array (P := Try.prog) (d := d + 1) (hu := Try.underlying22) (hi := hi), hc]
  simp [List.range, List.range.loop, Op.eqItems, hp0, hp1, hp2, hp3, eqi_d]
theorem eqb (a0 a1 a2 a3 : Int) (w : World) : (Op.equalIn 10000 22 (.agg #[.int .i64 a0, .int .i64 a1, .int .i64 a2, .int .i64 a3]) (.agg #[.int .i64 a0, .int .i64 a1, .int .i64 a2, .int .i64 a3])).run Try.prog w = .ok true w := eqb_d 9998 a0 a1 a2 a3 w
end Go.Proofs.Ytkdnoemakclmdaa
