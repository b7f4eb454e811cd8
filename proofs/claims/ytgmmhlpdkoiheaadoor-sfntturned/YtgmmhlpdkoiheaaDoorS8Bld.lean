/-
  What slices.Clone and slices.SortFunc answer of one table; what the landed Build answers of it.
-/
import Derived.Test.YtgmmhlpdkoiheaaDoorS8Wri
namespace Go.Proofs.YtgmmhlpdkoiheaaDoor
open Go.RowKit Go.Deep
set_option linter.unusedVariables false
set_option linter.unusedSimpArgs false

theorem inser_one (v f : Value) (w : World) : Calls Tryd.prog 60 #[v, .int .i64 0, .int .i64 1, f] w fun e w' => e = .returned (.tuple #[]) ∧ w' = w := by
  go_enter Tryd.func60, Tryd.ntmps60
  go_wp2_with fail
  refine wp_loop_rounds 1 ?_
  rw [rounds_succ]
  go_wp2_with fail
  go_end0
  exact ⟨rfl, rfl⟩
set_option maxRecDepth 8000 in
theorem pdq_one (v f : Value) (l : Int) (w : World) : Calls Tryd.prog 51 #[v, .int .i64 0, .int .i64 1, .int .i64 l, f] w fun e w' => e = .returned (.tuple #[]) ∧ w' = w := by
  have C := hide (inser_one v f w)
  go_enter Tryd.func51, Tryd.ntmps51
  go_wp2_with fail
  refine wp_loop_rounds 1 ?_
  rw [rounds_succ]
  go_wp2_with (go_at_call 60; refine C.out.mono ?_; rintro e w' ⟨rfl, hw'⟩; replace hw' := hw'.symm; subst hw')
  exact bodyPost_ret (v := .tuple #[]) (by simp [results, Tryd.results51, go_sem]) rfl ⟨rfl, rfl⟩
theorem sort_one (a : Option Addr) (c : Nat) (f : Value) (w : World) : Calls Tryd.prog 34 #[.slice a 1 c, f] w fun e w' => e = .returned (.tuple #[]) ∧ w' = w := by
  have CL := hide (show Calls Tryd.prog 52 #[.int .u64 1] w fun e w' => e = .returned (.int .i64 ((Lib.bitLen 1 : Nat) : Int)) ∧ w' = w from len_any 1 w (by omega))
  have C := hide (fun l => pdq_one (.slice a 1 c) f l w)
  go_enter Tryd.func34, Tryd.ntmps34
  go_wp2_with fail
  refine CL.out.mono ?_
  rintro e w' ⟨rfl, hw'⟩
  replace hw' := hw'.symm
  subst hw'
  go_wp2_with fail
  refine (C.out _).mono ?_
  rintro e w' ⟨rfl, hw'⟩
  replace hw' := hw'.symm
  subst hw'
  go_wp2_with fail
  go_end0
  exact ⟨rfl, rfl⟩
set_option maxRecDepth 8000 in
theorem clones_one (g c : Nat) (x : ByteArray) (w : World) (hg : g < w.heap.size) (h0 : w.cell? ⟨g, 0, none⟩ = some (.string abcd)) (h1 : w.cell? ⟨g, 1, none⟩ = some (.string x)) :
    Calls Tryd.prog 33 #[.slice (some ⟨g, 0, none⟩) 1 c] w fun e w' => ∃ b cap, e = .returned (.slice (some ⟨b, 0, none⟩) 1 cap) ∧ TbRow w' w.heap.size (.slice (some ⟨b, 0, none⟩) 1 cap) [(abcd, x)] ∧ Below w.heap.size w w' := by
  obtain ⟨i0, hi, hz0, hz1, hz2⟩ := info_parts5 info_tab
  have hal := (Below.refl w.heap.size w).alloc (Nat.le_refl _) (.cells #[] 43)
  have hnil : (w.alloc (.cells #[] 43)).ownsRow w.heap.size 43 2 (.slice (some ⟨w.heap.size, 0, none⟩) 0 0) 0 [] :=
    ⟨rfl, Or.inr ⟨w.heap.size, 0, #[], rfl, Nat.le_refl _, heap_alloc_new w _, Nat.le_refl _, by unfold maxLen; omega, rfl, rfl⟩⟩
  obtain ⟨b, cap, w2, hr, ho, hgr, _, _⟩ := run_append_lies (P := Tryd.prog) (w.alloc (.cells #[] 43)) 27 27 w.heap.size 43 i0 _ 2 32 Tryd.underlying27 hi hz0 hz1 hz2 rfl (by decide) (.slice (some ⟨w.heap.size, 0, none⟩) 0 0) 0 [] hnil ⟨g, 0, none⟩ 1 c [.string abcd, .string x] (by simp)
    (fun j u hu => by
      rw [Go.WideShapes.add_plain, Nat.zero_add, hal.cell (p := ⟨g, j, none⟩) hg]
      match j, hu with
      | 0, hu => cases hu; exact h0
      | 1, hu => cases hu; exact h1
      | j + 2, hu => cases hu) (fun u hu => by simp at hu; rcases hu with rfl | rfl <;> rfl) (by decide) (by unfold maxLen; omega) (by omega) (by simp) (w.heap.size + 1) (by simp)
  have HR := hide hr
  have HB := hide (hal.grown hgr (by simp) fun k hk' => (World.ownsRow.lt hnil k hk').1)
  have HO := hide (show TbRow w2 w.heap.size (.slice (some ⟨b, 0, none⟩) 1 cap) [(abcd, x)] from ho)
  have hnl := fun (w : World) => run_eql_slice_nil (P := Tryd.prog) w 27 43 (some ⟨g, 0, none⟩) 1 c Tryd.underlying27
  clear hr hgr ho hnil hal
  go_enter Tryd.func33, Tryd.ntmps33
  go_wp2_with (at_builtin; refine Lib.wpList_append_run _ rfl _ _ _ _ rfl _ _ rfl rfl _ _ HR.out ?_)
  go_ret
  exact ⟨_, _, rfl, HO.out, HB.out⟩
end Go.Proofs.YtgmmhlpdkoiheaaDoor
