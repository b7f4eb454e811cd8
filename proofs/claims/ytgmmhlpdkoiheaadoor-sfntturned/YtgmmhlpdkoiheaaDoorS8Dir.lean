/-
  What the landed directory answers of the file of one table.
-/
import Derived.Test.YtgmmhlpdkoiheaaDoorS8Fau
namespace Go.Proofs.YtgmmhlpdkoiheaaDoor
open Go.RowKit Go.Deep
set_option linter.unusedVariables false

/- the file of one table, in parts -/
structure One (s : ByteArray) : Prop where
  size : s.size = 32
  num : numV (s.extract 4 6).data.toList = 1
  opn : (⟨(openT 1).toArray⟩ : ByteArray) = s.extract 0 12
  row : rowV (s.extract 12 32).data.toList = rw1 2013265920 28 1
theorem f32_one : One F32 := ⟨by decide, by decide +kernel, by decide +kernel, by
  have e : (F32.extract 12 32).data.toList = [97, 98, 99, 100, 120, 0, 0, 0, 0, 0, 0, 28, 0, 0, 0, 1, 120, 0, 0, 0] := by decide +kernel
  rw [e]
  rfl⟩
theorem info_row : (Tryd.prog.info? 56).map (fun i => (i.zero, i.size, i.bytes)) = some (some (.agg #[.int .u8 0, .int .u8 0, .int .u8 0, .int .u8 0, .int .i64 0, .int .i64 0, .int .i64 0]), 7, 32) := by kernel_rfl
theorem make_row (w : World) : (Instr.makeSlice 49 (.int .i64 1) (.int .i64 1)).run Tryd.prog w = .ok (.slice (some ⟨w.heap.size, 0, none⟩) 1 1) (w.alloc (.cells #[.int .u8 0, .int .u8 0, .int .u8 0, .int .u8 0, .int .i64 0, .int .i64 0, .int .i64 0] 56)) := by
  obtain ⟨i, hi, hz, h1, h2⟩ := info_parts5 info_row
  have h := run_make (P := Tryd.prog) w 49 56 i _ Tryd.underlying49 hi hz .i64 .i64 1 1 (by omega) (by omega) (by rw [h2]; decide) (by omega)
  rw [h1] at h
  have e : madeCells (Value.agg #[.int .u8 0, .int .u8 0, .int .u8 0, .int .u8 0, .int .i64 0, .int .i64 0, .int .i64 0]).cells ((1 : Int).toNat * 7) = #[.int .u8 0, .int .u8 0, .int .u8 0, .int .u8 0, .int .i64 0, .int .i64 0, .int .i64 0] := by kernel_rfl
  rw [e] at h
  exact h
set_option maxRecDepth 8000 in
set_option maxHeartbeats 2000000 in
theorem directory_one (s : ByteArray) (hs : One s) (w : World) :
    Calls Tryd.prog 24 #[.string s] w fun e w' => ∃ b, e = .returned (.tuple #[.slice (some ⟨b, 0, none⟩) 1 1, .bool true]) ∧ Blk w' b (c1 2013265920 28 1) 56 ∧ Below w.heap.size w w' := by
  obtain ⟨h32, hnum, hopn, hrow⟩ := hs
  have hs1 : (s.size : Int) = 32 := by omega
  have CN := hide (show ∀ (t : ByteArray) (w : World), t = s.extract 4 6 → Calls Tryd.prog 42 #[.string t] w fun e w' => e = .returned (.int .i64 1) ∧ w' = w from fun t w ht => by
    have hh := number_any t w (by rw [ht, ByteArray.size_extract]; omega)
    have e : numV t.data.toList = 1 := by rw [ht]; exact hnum
    rw [e] at hh
    exact hh)
  have CO := hide (show ∀ (w : World), Calls Tryd.prog 43 #[.int .i64 1] w fun e w' => e = .returned (.string (s.extract 0 12)) ∧ Below w.heap.size w w' from fun w => by
    have hh := opening_any 1 w (by omega) (by omega)
    rw [hopn] at hh
    exact hh)
  have CD1 := hide (show ∀ (w : World), Calls Tryd.prog 44 #[.int .i64 1] w fun e w' => e = .returned (.int .i64 28) ∧ w' = w from fun w => dsize_any 1 w (by omega) (by omega))
  have CD0 := hide (show ∀ (w : World), Calls Tryd.prog 44 #[.int .i64 0] w fun e w' => e = .returned (.int .i64 12) ∧ w' = w from fun w => dsize_any 0 w (by omega) (by omega))
  have CR := hide (show ∀ (t : ByteArray) (w : World), t = s.extract 12 32 → Calls Tryd.prog 45 #[.string t] w fun e w' => e = .returned (.agg (c1 2013265920 28 1)) ∧ Below w.heap.size w w' from fun t w ht => by
    have hh := rowOf_any t w (by rw [ht, ByteArray.size_extract]; omega) (by rw [ht, ByteArray.size_extract]; omega)
    have e : rowV t.data.toList = rw1 2013265920 28 1 := by rw [ht]; exact hrow
    rw [e] at hh
    exact hh)
  have CT := hide (fun b w h => tagsRise_one 2013265920 28 1 b 1 w h)
  have HB := hide (Below.refl w.heap.size w)
  clear hnum hopn hrow
  go_enter Tryd.func24, Tryd.ntmps24
  go_wp2_with (go_at_call 42; refine (CN.out _ _ rfl).mono ?_; rintro e w' ⟨rfl, hw'⟩; replace hw' := hw'.symm; subst hw')
  rename_i kk0
  have HA := hide kk0
  clear kk0
  go_region_held3 (fun _ => True) (first | trivial | go_keep) ((first | (go_at_call 43; refine (CO.out _).mono ?_; rintro e x ⟨rfl, hbx⟩; replace HB := hide (below_d HB.out hbx rfl rfl rfl rfl); clear hbx) | (go_at_call 44; refine (CD1.out _).mono ?_; rintro e x ⟨rfl, rfl⟩)))
  refine HA.out _ _ ?_
  clear HA
  have hmk := make_row x
  go_wp2_with fail
  refine wp_loop_rounds 2 ?_
  rw [rounds_succ]
  go_wp2_with fail
  refine (CD0.out _).mono ?_
  rintro e w1 ⟨rfl, hw1⟩
  replace hw1 := hw1.symm
  subst hw1
  go_wp2_with fail
  refine (CR.out _ _ rfl).mono ?_
  rintro e y ⟨rfl, hy⟩
  have ky := (Blk.new x #[.int .u8 0, .int .u8 0, .int .u8 0, .int .u8 0, .int .i64 0, .int .i64 0, .int .i64 0] 56).below hy
  have hby : Below w.heap.size w y := below_t5 (HB.out.alloc HB.out.size _) hy
  have z0 := ky.cell 0
  have z1 := ky.cell 1
  have z2 := ky.cell 2
  have z3 := ky.cell 3
  have z4 := ky.cell 4
  have z5 := ky.cell 5
  have z6 := ky.cell 6
  simp at z0 z1 z2 z3 z4 z5 z6
  have f0 := ky.frozen 0
  have f1 := ky.frozen 1
  have f2 := ky.frozen 2
  have f3 := ky.frozen 3
  have f4 := ky.frozen 4
  have f5 := ky.frozen 5
  have f6 := ky.frozen 6
  have HKY := hide ky
  have HBY := hide hby
  have HXS := hide HB.out.size
  clear hmk hy ky hby
  go_wp2_with fail
  have K7 := st7_blk HKY.out (.int .u8 97) (.int .u8 98) (.int .u8 99) (.int .u8 100) (.int .i64 2013265920) (.int .i64 28) (.int .i64 1)
  have B7 := st7_below HBY.out HXS.out (.int .u8 97) (.int .u8 98) (.int .u8 99) (.int .u8 100) (.int .i64 2013265920) (.int .i64 28) (.int .i64 1)
  generalize (((((((y.setCell ⟨x.heap.size, 0, none⟩ (.int .u8 97)).setCell ⟨x.heap.size, 1, none⟩ (.int .u8 98)).setCell ⟨x.heap.size, 2, none⟩ (.int .u8 99)).setCell ⟨x.heap.size, 3, none⟩ (.int .u8 100)).setCell ⟨x.heap.size, 4, none⟩ (.int .i64 2013265920)).setCell ⟨x.heap.size, 5, none⟩ (.int .i64 28)).setCell ⟨x.heap.size, 6, none⟩ (.int .i64 1)) = W7 at K7 B7 ⊢
  clear z0 z1 z2 z3 z4 z5 z6 f0 f1 f2 f3 f4 f5 f6
  have CT7 := hide (CT.out x.heap.size W7 (C7.of K7))
  have HK7 := hide K7
  have HB7 := hide B7
  clear K7 B7
  rw [rounds_succ]
  go_wp2_with (go_at_call 46; refine CT7.out.mono ?_; rintro e w9 ⟨rfl, h9⟩)
  go_ret2
  exact ⟨_, rfl, HK7.out.below h9, below_t5 HB7.out h9⟩
end Go.Proofs.YtgmmhlpdkoiheaaDoor
