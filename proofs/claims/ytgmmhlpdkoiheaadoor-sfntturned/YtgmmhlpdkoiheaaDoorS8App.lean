/-
  What the landed row.appendTo answers.
-/
import Derived.Test.YtgmmhlpdkoiheaaDoorS8Rd
namespace Go.Proofs.YtgmmhlpdkoiheaaDoor
open Go.RowKit Go.Deep
set_option linter.unusedVariables false

/- bytes that lie elsewhere appended to a row that the call owns -/
theorem app_src {W : World} {B : Nat} {v : Value} {ys : List UInt8} (news : List UInt8) (b c : Nat) (h : BRow W B v ys) (hB : B ≤ W.heap.size) (hm : 0 < news.length) (hl : ys.length + news.length ≤ 140737488355328)
    (hc : ∀ j u, (news.map bcell)[j]? = some u → W.cell? ⟨b, j, none⟩ = some u) (hcap : news.length ≤ c) :
    ∃ v' w2, (Builtin.append_ #[45, 45] 45 #[v, .slice (some ⟨b, 0, none⟩) news.length c]).run Tryd.prog W = .ok v' w2 ∧ BRow w2 B v' (ys ++ news) ∧ KB B W w2 := by
  obtain ⟨i0, hi, hz0, hz1, hz2⟩ := info_parts5 info_u8
  obtain ⟨g, cap, w2, hr, ho, hg, _, _⟩ := run_append_lies (P := Tryd.prog) W 45 45 B 5 i0 _ 1 1 Tryd.underlying45 hi hz0 hz1 hz2 rfl (by decide) v ys.length (ys.map bcell) h ⟨b, 0, none⟩ news.length c (news.map bcell) (by simp)
    (fun j u hu => by rw [Go.WideShapes.add_plain, Nat.zero_add]; exact hc j u hu) (bcells_one _) hm (by unfold maxLen; omega) (by omega) hB W.heap.size rfl
  refine ⟨_, w2, hr, ?_, (Below.refl B W).grown hg hB fun k hk' => (World.ownsRow.lt h k hk').1, NB.grown h hg⟩
  unfold BRow
  rw [List.map_append, List.length_append]
  exact ho
theorem ix3_0 (x0 x1 x2 : Int) (w : World) : (Instr.index 96 (.agg #[.int .i64 x0, .int .i64 x1, .int .i64 x2]) (.int .i64 0)).run Tryd.prog w = .ok (.int .i64 x0) w := by kernel_rfl
theorem ix3_1 (x0 x1 x2 : Int) (w : World) : (Instr.index 96 (.agg #[.int .i64 x0, .int .i64 x1, .int .i64 x2]) (.int .i64 1)).run Tryd.prog w = .ok (.int .i64 x1) w := by kernel_rfl
theorem ix3_2 (x0 x1 x2 : Int) (w : World) : (Instr.index 96 (.agg #[.int .i64 x0, .int .i64 x1, .int .i64 x2]) (.int .i64 2)).run Tryd.prog w = .ok (.int .i64 x2) w := by kernel_rfl
theorem tr_ne : (56 : TypeId) ≠ 5 := by decide
set_option maxRecDepth 8000 in
set_option maxHeartbeats 2000000 in
theorem appendTo_c (sum pl ln : Int) (v : Value) (ys : List UInt8) (B : Nat) (w : World) (hr : RwOk (rw1 sum pl ln)) (h : BRow w B v ys) (hB : B ≤ w.heap.size) (hl : ys.length ≤ 1000000) :
    Calls Tryd.prog 55 #[.agg (c1 sum pl ln), v] w fun e w' => ∃ v', e = .returned v' ∧ BRow w' B v' (ys ++ [97, 98, 99, 100] ++ nbT sum 4 ++ nbT pl 4 ++ nbT ln 4) ∧ KB B w w' := by
  obtain ⟨h1, h2, h3⟩ := hr
  simp only at h1 h2 h3
  have hb0 := (Below.refl w.heap.size w).alloc (Nat.le_refl _) (.cells (c1 sum pl ln) 56)
  have k0 := Blk.new w (c1 sum pl ln) 56
  have hn0 := NB.below hb0
  have hkb0 : KB B w (w.alloc (.cells (c1 sum pl ln) 56)) := ⟨(Below.refl B w).alloc hB _, hn0⟩
  obtain ⟨v1, w1, hr1, hb1, hk1⟩ := app_src [97, 98, 99, 100] w.heap.size 4 (h.later hb0) (Nat.le_trans hB hb0.size) (by decide) (by simp; omega) (fun j u hu => by
    rw [k0.cell j]
    match j, hu with
    | 0, hu => exact hu
    | 1, hu => exact hu
    | 2, hu => exact hu
    | 3, hu => exact hu
    | j + 4, hu => cases hu) (by decide)
  have K1 := k0.nb hk1.nb tr_ne
  have HR1 := hide hr1
  have HB1 := hide hb1
  have HK1 := hide (hkb0.trans hk1)
  have c4 := K1.cell 4
  have c5 := K1.cell 5
  have c6 := K1.cell 6
  simp at c4 c5 c6
  have CA := hide (fun (v : Value) (ys : List UInt8) (x : Int) w' => appendNumber_any v ys x 4 B w' (by omega))
  have i0 := ix3_0
  have i1 := ix3_1
  have i2 := ix3_2
  clear hr1 hb1 hk1 K1 h hb0 k0 hn0 hkb0
  go_enter Tryd.func55, Tryd.ntmps55
  go_wp2_with (at_builtin; refine Lib.wpList_append_run _ rfl _ _ _ _ rfl _ _ rfl rfl _ _ HR1.out ?_)
  refine wp_loop_rounds 4 ?_
  rw [rounds_succ]
  go_wp2_with fail
  refine (CA.out _ _ _ _ ?_ ?_ HB1.out (Nat.le_trans hB HK1.out.size) (by simp; omega)).mono ?_
  · omega
  · omega
  rintro e w2 ⟨v2, rfl, hb2, hk2⟩
  have HB2 := hide hb2
  have HK2 := hide (HK1.out.trans hk2)
  clear hb2 hk2
  go_wp2_with fail
  rw [rounds_succ]
  go_wp2_with fail
  refine (CA.out _ _ _ _ ?_ ?_ HB2.out (Nat.le_trans hB HK2.out.size) (by simp [nbT_len]; omega)).mono ?_
  · omega
  · omega
  rintro e w3 ⟨v3, rfl, hb3, hk3⟩
  have HB3 := hide hb3
  have HK3 := hide (HK2.out.trans hk3)
  clear hb3 hk3
  go_wp2_with fail
  rw [rounds_succ]
  go_wp2_with fail
  refine (CA.out _ _ _ _ ?_ ?_ HB3.out (Nat.le_trans hB HK3.out.size) (by simp [nbT_len]; omega)).mono ?_
  · omega
  · omega
  rintro e w4 ⟨v4, rfl, hb4, hk4⟩
  have HB4 := hide hb4
  have HK4 := hide (HK3.out.trans hk4)
  clear hb4 hk4
  go_wp2_with fail
  rw [rounds_succ]
  go_wp2_with fail
  go_ret
  exact ⟨_, rfl, HB4.out, HK4.out⟩
end Go.Proofs.YtgmmhlpdkoiheaaDoor
