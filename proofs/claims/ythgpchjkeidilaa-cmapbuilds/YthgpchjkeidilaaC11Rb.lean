/-
  What the reference's Two, Four, two, fourb answer.
-/
import Derived.Test.YthgpchjkeidilaaC11Wt
namespace Go.Proofs.Ythgpchjkeidilaa
open Go.RowKit Go.Deep
set_option linter.unusedVariables false

theorem rtwo_any (x : Int) (w : World) (h0 : -4611686018427387904 ≤ x) (h1 : x ≤ 4611686018427387904) : Calls Try.prog 26 #[.int .i64 x] w fun e w' => e = .returned (.string ⟨(t2 x).toArray⟩) ∧ Below w.heap.size w w' := by
  have CV : (convert 36 9 (.slice (some ⟨w.heap.size, 0, none⟩) 2 2)).run Try.prog (w.alloc (.cells #[.int .u8 (x / 256 % 256), .int .u8 (x % 256)] 5)) = .ok (.string ⟨(t2 x).toArray⟩) (w.alloc (.cells #[.int .u8 (x / 256 % 256), .int .u8 (x % 256)] 5)) := by
    refine run_convert_bytes_back (P := Try.prog) _ 36 9 5 ⟨w.heap.size, 0, none⟩ 2 (t2 x) Try.underlying36 Try.underlying5 Try.underlying9 ?_
    intro j hj
    rw [Go.WideShapes.add_plain, Nat.zero_add, World.cell?_alloc_at _ _ _ _ rfl]
    have e1 := hiB_cell x
    have e2 := loB_cell x
    unfold bcell at e1 e2
    match j, hj with
    | 0, _ => exact congrArg some e1.symm
    | 1, _ => exact congrArg some e2.symm
  have HB := hide ((Below.refl w.heap.size w).alloc (Nat.le_refl _) (.cells #[.int .u8 (x / 256 % 256), .int .u8 (x % 256)] 5))
  generalize (⟨(t2 x).toArray⟩ : ByteArray) = T at CV ⊢
  go_enter Try.func26, Try.ntmps26
  go_wp2_with fail
  go_ret
  exact ⟨rfl, HB.out⟩
theorem rfour_any (x : Int) (w : World) (h0 : -4611686018427387904 ≤ x) (h1 : x ≤ 4611686018427387904) : Calls Try.prog 25 #[.int .i64 x] w fun e w' => e = .returned (.string ⟨(t4 x).toArray⟩) ∧ Below w.heap.size w w' := by
  have C1 := hide (fun w => rtwo_any (x / 65536) w (by omega) (by omega))
  have C2 := hide (fun w => rtwo_any x w h0 h1)
  have hc : ∀ w, (Op.stringOp .add (⟨(t2 (x / 65536)).toArray⟩ : ByteArray) (⟨(t2 x).toArray⟩ : ByteArray)).run Try.prog w = .ok (.string ⟨(t4 x).toArray⟩) w := fun w => by
    have := run_string_add_sum (P := Try.prog) w (⟨(t2 (x / 65536)).toArray⟩ : ByteArray) (⟨(t2 x).toArray⟩ : ByteArray) (by show 2 + 2 ≤ _; omega)
    rw [this]
    rfl
  generalize (⟨(t2 (x / 65536)).toArray⟩ : ByteArray) = A at *
  generalize (⟨(t2 x).toArray⟩ : ByteArray) = B at *
  generalize (⟨(t4 x).toArray⟩ : ByteArray) = T at *
  clear h0 h1
  go_enter Try.func25, Try.ntmps25
  go_wp2_with fail
  refine (C1.out _).mono ?_
  rintro e w1 ⟨rfl, hb1⟩
  have B1 := hide hb1
  clear hb1
  go_wp2_with fail
  refine (C2.out _).mono ?_
  rintro e w2 ⟨rfl, hb2⟩
  have B2 := hide (B1.out.trans (hb2.mono B1.out.size))
  clear hb2
  go_wp2_with fail
  go_ret
  exact ⟨rfl, B2.out⟩
theorem rt_any (x : Int) (w : World) (h0 : -4611686018427387904 ≤ x) (h1 : x ≤ 4611686018427387904) : Calls Try.prog 15 #[.int .i64 x] w fun e w' => e = .returned (.string ⟨(t2 x).toArray⟩) ∧ Below w.heap.size w w' := by
  have C := hide (rtwo_any x w h0 h1)
  generalize (⟨(t2 x).toArray⟩ : ByteArray) = T at *
  clear h0 h1
  go_enter Try.func15, Try.ntmps15
  go_wp2_with fail
  refine C.out.mono ?_
  rintro e w1 ⟨rfl, hb1⟩
  have B1 := hide hb1
  clear hb1
  go_wp2_with fail
  go_ret
  exact ⟨rfl, B1.out⟩
theorem rf_any (x : Int) (w : World) (h0 : -4611686018427387904 ≤ x) (h1 : x ≤ 4611686018427387904) : Calls Try.prog 14 #[.int .i64 x] w fun e w' => e = .returned (.string ⟨(t4 x).toArray⟩) ∧ Below w.heap.size w w' := by
  have C := hide (rfour_any x w h0 h1)
  generalize (⟨(t4 x).toArray⟩ : ByteArray) = T at *
  clear h0 h1
  go_enter Try.func14, Try.ntmps14
  go_wp2_with fail
  refine C.out.mono ?_
  rintro e w1 ⟨rfl, hb1⟩
  have B1 := hide hb1
  clear hb1
  go_wp2_with fail
  go_ret
  exact ⟨rfl, B1.out⟩
end Go.Proofs.Ythgpchjkeidilaa
