/-
  Zeros appended to a row; what the landed write answers of one table.
-/
import Derived.Test.YtgmmhlpdkoiheaaDoorS8Lay
namespace Go.Proofs.YtgmmhlpdkoiheaaDoor
open Go.RowKit Go.Deep
set_option linter.unusedVariables false
set_option linter.unusedSimpArgs false

set_option maxHeartbeats 1000000 in
theorem append_zeros_eq (base : Option Addr) (sLen sCap : Nat) (w : World) (h1 : sLen ≤ 1000000000000) (h2 : ¬ sLen + 3 ≤ sCap → Builtin.nextslicecap (sLen + 3) sCap ≤ 281474976710656) :
    (Builtin.append_ #[45, 3] 45 #[.slice base sLen sCap, .int .i64 3]).run Tryd.prog w = (Builtin.append_ #[45, 9] 45 #[.slice base sLen sCap, .string ⟨#[0, 0, 0]⟩]).run Tryd.prog w := by
  obtain ⟨i, hi, hz, hs, hb⟩ := info_parts5 info_u8
  have hw : IntKind.i64.wrap (3 : Int) = 3 := by rw [IntKind.wrap_i64]; omega
  have e1 : (Builtin.zeroCells (Value.int IntKind.u8 0).cells 3) = #[.int .u8 0, .int .u8 0, .int .u8 0] := by kernel_rfl
  have e2 : (ByteArray.mk #[0, 0, 0]).size = 3 := rfl
  have n1 : ¬ (9223372036854775807 < ((sLen : Int) + 3)) := by omega
  by_cases hr : sLen + 3 ≤ sCap
  · simp [Builtin.append_, run_underlying Tryd.underlying45, run_underlying Tryd.underlying3, run_underlying Tryd.underlying9, sizeOf, typeInfo, zeroValue, hi, hz, hs, hb, asInt, asIntOf, hw, Builtin.lenOf, e2, hr, Builtin.firstCells, e1]
  · have n2 : ¬ (281474976710656 < Builtin.nextslicecap (sLen + 3) sCap) := by have := h2 hr; omega
    simp [Builtin.append_, run_underlying Tryd.underlying45, run_underlying Tryd.underlying3, run_underlying Tryd.underlying9, sizeOf, typeInfo, zeroValue, hi, hz, hs, hb, asInt, asIntOf, hw, Builtin.lenOf, e2, hr, Builtin.firstCells, e1, n1, n2]
    intro h
    exact absurd h (by omega)
theorem app_z3 {W : World} {B : Nat} {v : Value} {ys : List UInt8} (h : BRow W B v ys) (hB : B ≤ W.heap.size) (hl : ys.length ≤ 1000000) :
    ∃ v' w2, (Builtin.append_ #[45, 3] 45 #[v, .int .i64 3]).run Tryd.prog W = .ok v' w2 ∧ BRow w2 B v' (ys ++ [0, 0, 0]) ∧ KB B W w2 := by
  obtain ⟨v', w2, hr, hb, hk⟩ := app_s3 ⟨#[0, 0, 0]⟩ h hB (by show _ + 3 ≤ _; omega)
  obtain ⟨a, cap, rfl⟩ := h.shape
  refine ⟨v', w2, ?_, hb, hk⟩
  rw [append_zeros_eq a ys.length cap W (by omega) (fun hn => by
    have h := growslice_fits (need := ys.length + 3) (old := cap) (bytes := 1) (by omega) (by omega)
    omega)]
  exact hr
theorem make_text (w : World) : ∃ w1, (Instr.makeSlice 45 (.int .i64 0) (.int .i64 32)).run Tryd.prog w = .ok (.slice (some ⟨w.heap.size, 0, none⟩) 0 32) w1 ∧ BRow w1 w.heap.size (.slice (some ⟨w.heap.size, 0, none⟩) 0 32) [] ∧ Below w.heap.size w w1 := by
  obtain ⟨i, hi, hz, h1, h2⟩ := info_parts5 info_u8
  obtain ⟨w1, a, b, c⟩ := run_make_own (P := Tryd.prog) w w.heap.size 45 5 i _ 1 Tryd.underlying45 hi hz h1 .i64 .i64 32 (by rw [h2]; decide) (by decide) (Nat.le_refl _)
  exact ⟨w1, a, b, (Below.refl _ _).grown c (Nat.le_refl _) (fun k hk => by cases hk)⟩
/- the text of one table -/
def T32 (x : ByteArray) : List UInt8 := openT 1 ++ [97, 98, 99, 100] ++ nbT 2013265920 4 ++ nbT 28 4 ++ nbT 1 4 ++ x.data.toList ++ [0, 0, 0]
set_option maxRecDepth 8000 in
set_option maxHeartbeats 4000000 in
theorem write_one (g c b cap : Nat) (x : ByteArray) (hx : x.size = 1) (hsum : sumV x.data.toList = 2013265920) (w : World) (hg : g < w.heap.size) (h1 : w.cell? ⟨g, 1, none⟩ = some (.string x)) (hC : C7 w b 0 28 1) (hG : Glo8 w) :
    Calls Tryd.prog 38 #[.slice (some ⟨g, 0, none⟩) 1 c, .slice (some ⟨b, 0, none⟩) 1 cap, .int .i64 32] w fun e w' => e = .returned (.string ⟨(T32 x).toArray⟩) ∧ Below w.heap.size w w' := by
  have hol : (openT 1).length = 12 := by decide +kernel
  obtain ⟨w1, hmk, hb1, hB1⟩ := make_text w
  have CO := hide (opening_any 1 w1 (by omega) (by omega))
  have CSu := hide (show ∀ (w : World), Calls Tryd.prog 10 #[.string x] w fun e w' => e = .returned (.int .i64 2013265920) ∧ w' = w from fun w => by
    have hh := sum_any x w (by omega)
    rw [hsum] at hh
    exact hh)
  have CS := hide (fun (w : World) hg => summed_c x w hg (by omega))
  have CA := hide (fun v ys w' => appendTo_c 2013265920 28 1 v ys w.heap.size w' (by unfold RwOk; simp))
  have CF := hide (show ∀ (w : World), Calls Tryd.prog 54 #[.int .i64 1] w fun e w' => e = .returned (.int .i64 4) ∧ w' = w from fun w => filled_any 1 w (by omega) (by omega))
  have CH := hide (fun (w : World) hg => holds_c 1 w hg (by omega) (by omega))
  have HG := hide hG
  have HC := hide hC
  have H1 := hide (show ∀ x' : World, Below w.heap.size w x' → x'.cell? ⟨g, 1, none⟩ = some (.string x) from fun x' hb => (hb.cell (p := ⟨g, 1, none⟩) hg).trans h1)
  have HB1 := hide hB1
  have Hb1 := hide hb1
  clear hC hG h1 hsum hB1 hb1
  go_enter Tryd.func38, Tryd.ntmps38
  go_wp2_with fail
  refine CO.out.mono ?_
  rintro e w2 ⟨rfl, hB2⟩
  obtain ⟨v3, w3, hr3, hb3, hk3⟩ := app_s3 ⟨(openT 1).toArray⟩ (Hb1.out.later hB2) (Nat.le_trans HB1.out.size hB2.size) (by rw [Lib.size_eq]; show _ + (openT 1).length ≤ _; rw [hol]; simp)
  have HR3 := hide hr3
  have HB3 := hide ((below_t5 HB1.out hB2).trans hk3.below)
  have Hb3 := hide (show BRow w3 w.heap.size v3 (openT 1) by simpa using hb3)
  clear hB2 hr3 hb3 hk3 hmk
  generalize (⟨(openT 1).toArray⟩ : ByteArray) = OT at HR3 ⊢
  go_wp2_with (at_builtin; refine Lib.wpList_append_run _ rfl _ _ _ _ rfl _ _ rfl rfl _ _ HR3.out ?_)
  obtain ⟨hbl, g0, g1, g2, g3, g4, g5, g6⟩ := HC.out.below HB3.out
  have hne : b ≠ w3.heap.size := by omega
  refine wp_loop_rounds 2 ?_
  rw [rounds_succ]
  go_wp2_with fail
  have HBw := HB3
  rename_i kk0
  have HA := hide kk0
  clear kk0
  have k := Blk.new w3 (c1 0 28 1) 56
  have hbv : Below w3.heap.size w3 (w3.alloc (.cells (c1 0 28 1) 56)) := (Below.refl _ _).alloc (Nat.le_refl _) _
  generalize w3.alloc (.cells (c1 0 28 1) 56) = V at k hbv ⊢
  have KS := hide (show ∀ y, Below V.heap.size V y → (fun y => y.cell? ⟨w3.heap.size, 0, none⟩ = some (.int .u8 97) ∧ y.cell? ⟨w3.heap.size, 1, none⟩ = some (.int .u8 98) ∧ y.cell? ⟨w3.heap.size, 2, none⟩ = some (.int .u8 99) ∧ y.cell? ⟨w3.heap.size, 3, none⟩ = some (.int .u8 100) ∧ y.cell? ⟨g, 1, none⟩ = some (.string x)) y from fun y hy => ⟨(k.below hy).cell 0, (k.below hy).cell 1, (k.below hy).cell 2, (k.below hy).cell 3, H1.out _ (HBw.out.trans ((below_t5 hbv hy).mono HBw.out.size))⟩)
  have HGV := hide (HG.out.below (HBw.out.trans (hbv.mono HBw.out.size)))
  have HB := hide (Below.refl V.heap.size V)
  have HBV := hide hbv
  have HKV := hide k
  clear k hbv g0 g1 g2 g3 g4 g5 g6 hne hbl
  refine wp_region_held_drew (S := (fun y => y.cell? ⟨w3.heap.size, 0, none⟩ = some (.int .u8 97) ∧ y.cell? ⟨w3.heap.size, 1, none⟩ = some (.int .u8 98) ∧ y.cell? ⟨w3.heap.size, 2, none⟩ = some (.int .u8 99) ∧ y.cell? ⟨w3.heap.size, 3, none⟩ = some (.int .u8 100) ∧ y.cell? ⟨g, 1, none⟩ = some (.string x))) (by kernel_rfl) (KS.out _ ((Below.refl _ _).drew)) (fun hHeld => ?_)
  refine takeW (i := 0) (d := 29) (v := .pointer (some ⟨w3.heap.size, 0, none⟩)) rfl rfl (by kernel_rfl) (by kernel_rfl) (by kernel_rfl) (fun _ _ _ h => h) (by rfl) ?_ (by assumption) ?_
  · intro x hSx
    obtain ⟨q0, q1, q2, q3, q4⟩ := hSx
    go_simp
  simp only [Act.put, List.setIfInBounds_toArray, List.set_cons_zero, List.set_cons_succ]
  refine takeW (i := 1) (d := 30) (v := .agg t1) rfl rfl (by kernel_rfl) (by kernel_rfl) (by kernel_rfl) (fun _ _ _ h => h) (by rfl) ?_ (by assumption) ?_
  · intro x hSx
    obtain ⟨q0, q1, q2, q3, q4⟩ := hSx
    go_simp
  simp only [Act.put, List.setIfInBounds_toArray, List.set_cons_zero, List.set_cons_succ]
  refine takeW (i := 2) (d := 31) (v := .slice (some ⟨g, 0, none⟩) 1 c) rfl rfl (by kernel_rfl) (by kernel_rfl) (by kernel_rfl) (fun _ _ _ h => h) (by rfl) ?_ (by assumption) ?_
  · intro x hSx
    obtain ⟨q0, q1, q2, q3, q4⟩ := hSx
    go_simp
  simp only [Act.put, List.setIfInBounds_toArray, List.set_cons_zero, List.set_cons_succ]
  refine takeW (i := 3) (d := 32) (v := .int .i64 0) rfl rfl (by kernel_rfl) (by kernel_rfl) (by kernel_rfl) (fun _ _ _ h => h) (by rfl) ?_ (by assumption) ?_
  · intro x hSx
    obtain ⟨q0, q1, q2, q3, q4⟩ := hSx
    go_simp
  simp only [Act.put, List.setIfInBounds_toArray, List.set_cons_zero, List.set_cons_succ]
  refine takeW (i := 4) (d := 33) (v := .pointer (some ⟨g, 0, none⟩)) rfl rfl (by kernel_rfl) (by kernel_rfl) (by kernel_rfl) (fun _ _ _ h => h) (by rfl) ?_ (by assumption) ?_
  · intro x hSx
    obtain ⟨q0, q1, q2, q3, q4⟩ := hSx
    go_simp
  simp only [Act.put, List.setIfInBounds_toArray, List.set_cons_zero, List.set_cons_succ]
  refine takeW (i := 5) (d := 34) (v := .pointer (some ⟨g, 1, none⟩)) rfl rfl (by kernel_rfl) (by kernel_rfl) (by kernel_rfl) (fun _ _ _ h => h) (by rfl) ?_ (by assumption) ?_
  · intro x hSx
    obtain ⟨q0, q1, q2, q3, q4⟩ := hSx
    go_simp
  simp only [Act.put, List.setIfInBounds_toArray, List.set_cons_zero, List.set_cons_succ]
  refine takeW (i := 6) (d := 35) (v := .string x) rfl rfl (by kernel_rfl) (by kernel_rfl) (by kernel_rfl) (fun _ _ _ h => h) (by rfl) ?_ (by assumption) ?_
  · intro x hSx
    obtain ⟨q0, q1, q2, q3, q4⟩ := hSx
    go_simp
  simp only [Act.put, List.setIfInBounds_toArray, List.set_cons_zero, List.set_cons_succ]
  refine wpAnyH_ready (rs := [7]) (by kernel_rfl) (by simp) ?_
  refine AllReadyH.cons rfl (fun K hK => ?_) AllReadyH.nil
  rw [if_pos (by rfl)]
  go_simp
  go_at_call 48
  refine (CS.out _ ?_).mono ?_
  · exact HGV.out.below (below_d HB.out (Below.refl _ _) rfl rfl rfl rfl)
  rintro e y ⟨rfl, hbx⟩
  replace HB := hide (below_d HB.out hbx rfl rfl rfl rfl)
  clear hbx
  refine hK.out _ _ (KS.out _ HB.out) (fun hHeld => ?_)
  clear hK K
  refine wpAnyH_ready (rs := [8]) (by kernel_rfl) (by simp) ?_
  refine AllReadyH.cons rfl (fun K hK => ?_) AllReadyH.nil
  rw [if_pos (by rfl)]
  go_simp
  go_at_call 10
  refine (CSu.out _).mono ?_
  rintro e y9 ⟨rfl, hy9⟩
  replace hy9 := hy9.symm
  subst hy9
  refine hK.out _ _ (KS.out _ HB.out) (fun hHeld => ?_)
  clear hK K
  refine takeW (i := 9) (d := 38) (v := .pointer (some ⟨w3.heap.size, 4, none⟩)) rfl rfl (by kernel_rfl) (by kernel_rfl) (by kernel_rfl) (fun _ _ _ h => h) (by rfl) ?_ (by assumption) ?_
  · intro x hSx
    obtain ⟨q0, q1, q2, q3, q4⟩ := hSx
    go_simp
  simp only [Act.put, List.setIfInBounds_toArray, List.set_cons_zero, List.set_cons_succ]
  refine wpAnyH_ready (rs := [10]) (by kernel_rfl) (by simp) ?_
  refine AllReadyH.cons rfl (fun K hK => ?_) AllReadyH.nil
  have ky := HKV.out.below HB.out
  have f4 := ky.frozen 4
  have y4 := ky.cell 4
  simp at y4
  rw [if_pos (by rfl)]
  go_simp
  have K5 := ky.set 4 (.int .i64 2013265920)
  have B5 : Below w3.heap.size w3 (y.setCell ⟨w3.heap.size, 4, none⟩ (.int .i64 2013265920)) := (below_t5 HBV.out HB.out).setCell (p := ⟨w3.heap.size, 4, none⟩) (Nat.le_refl _) _
  clear y4 f4 ky
  generalize y.setCell ⟨w3.heap.size, 4, none⟩ (.int .i64 2013265920) = W5 at K5 B5 ⊢
  replace K5 : Blk W5 w3.heap.size (c1 2013265920 28 1) 56 := K5
  refine hK.out _ _ ⟨K5.cell 0, K5.cell 1, K5.cell 2, K5.cell 3, H1.out _ (HB3.out.trans (B5.mono HB3.out.size))⟩ (fun hHeld => ?_)
  clear hK K
  refine wpAnyH_done (by kernel_rfl) ?_ _
  refine HA.out _ _ ?_
  clear HA KS HGV HB HKV HBw
  obtain ⟨_, g0, g1, g2, g3, g4, g5, g6⟩ := C7.of K5
  have Hb5 := hide (Hb3.out.later B5)
  have HB5 := hide (HB3.out.trans (B5.mono HB3.out.size))
  clear K5 B5 HBV
  go_wp2_with fail
  refine (CA.out _ _ _ Hb5.out HB5.out.size (by rw [hol]; omega)).mono ?_
  rintro e w6 ⟨v6, rfl, hb6, hk6⟩
  have Hb6 := hide hb6
  have HB6 := hide (HB5.out.trans hk6.below)
  clear hb6 hk6 g0 g1 g2 g3 g4 g5 g6
  go_wp2_with fail
  rw [rounds_succ]
  go_wp2_with fail
  obtain ⟨hbl, g0, g1, g2, g3, g4, g5, g6⟩ := HC.out.below HB6.out
  have hne : b ≠ w6.heap.size := by omega
  refine wp_loop_rounds 2 ?_
  rw [rounds_succ]
  go_wp2_with fail
  have HBw := HB6
  rename_i kk0
  have HA := hide kk0
  clear kk0
  have k := Blk.new w6 (c1 0 28 1) 56
  have hbv : Below w6.heap.size w6 (w6.alloc (.cells (c1 0 28 1) 56)) := (Below.refl _ _).alloc (Nat.le_refl _) _
  generalize w6.alloc (.cells (c1 0 28 1) 56) = V at k hbv ⊢
  have KS := hide (show ∀ y, Below V.heap.size V y → (fun y => y.cell? ⟨w6.heap.size, 0, none⟩ = some (.int .u8 97) ∧ y.cell? ⟨w6.heap.size, 1, none⟩ = some (.int .u8 98) ∧ y.cell? ⟨w6.heap.size, 2, none⟩ = some (.int .u8 99) ∧ y.cell? ⟨w6.heap.size, 3, none⟩ = some (.int .u8 100) ∧ y.cell? ⟨g, 1, none⟩ = some (.string x)) y from fun y hy => ⟨(k.below hy).cell 0, (k.below hy).cell 1, (k.below hy).cell 2, (k.below hy).cell 3, H1.out _ (HBw.out.trans ((below_t5 hbv hy).mono HBw.out.size))⟩)
  have HGV := hide (HG.out.below (HBw.out.trans (hbv.mono HBw.out.size)))
  have HB := hide (Below.refl V.heap.size V)
  have HBV := hide hbv
  have HKV := hide k
  clear k hbv g0 g1 g2 g3 g4 g5 g6 hne hbl
  refine wp_region_held_drew (S := (fun y => y.cell? ⟨w6.heap.size, 0, none⟩ = some (.int .u8 97) ∧ y.cell? ⟨w6.heap.size, 1, none⟩ = some (.int .u8 98) ∧ y.cell? ⟨w6.heap.size, 2, none⟩ = some (.int .u8 99) ∧ y.cell? ⟨w6.heap.size, 3, none⟩ = some (.int .u8 100) ∧ y.cell? ⟨g, 1, none⟩ = some (.string x))) (by kernel_rfl) (KS.out _ ((Below.refl _ _).drew)) (fun hHeld => ?_)
  refine takeW (i := 0) (d := 50) (v := v6) rfl rfl (by kernel_rfl) (by kernel_rfl) (by kernel_rfl) (fun _ _ _ h => h) (by rfl) ?_ (by assumption) ?_
  · intro x hSx
    obtain ⟨q0, q1, q2, q3, q4⟩ := hSx
    go_simp
  simp only [Act.put, List.setIfInBounds_toArray, List.set_cons_zero, List.set_cons_succ]
  refine takeW (i := 1) (d := 51) (v := .pointer (some ⟨w6.heap.size, 0, none⟩)) rfl rfl (by kernel_rfl) (by kernel_rfl) (by kernel_rfl) (fun _ _ _ h => h) (by rfl) ?_ (by assumption) ?_
  · intro x hSx
    obtain ⟨q0, q1, q2, q3, q4⟩ := hSx
    go_simp
  simp only [Act.put, List.setIfInBounds_toArray, List.set_cons_zero, List.set_cons_succ]
  refine takeW (i := 2) (d := 52) (v := .agg t1) rfl rfl (by kernel_rfl) (by kernel_rfl) (by kernel_rfl) (fun _ _ _ h => h) (by rfl) ?_ (by assumption) ?_
  · intro x hSx
    obtain ⟨q0, q1, q2, q3, q4⟩ := hSx
    go_simp
  simp only [Act.put, List.setIfInBounds_toArray, List.set_cons_zero, List.set_cons_succ]
  refine takeW (i := 3) (d := 53) (v := .slice (some ⟨g, 0, none⟩) 1 c) rfl rfl (by kernel_rfl) (by kernel_rfl) (by kernel_rfl) (fun _ _ _ h => h) (by rfl) ?_ (by assumption) ?_
  · intro x hSx
    obtain ⟨q0, q1, q2, q3, q4⟩ := hSx
    go_simp
  simp only [Act.put, List.setIfInBounds_toArray, List.set_cons_zero, List.set_cons_succ]
  refine takeW (i := 4) (d := 54) (v := .int .i64 0) rfl rfl (by kernel_rfl) (by kernel_rfl) (by kernel_rfl) (fun _ _ _ h => h) (by rfl) ?_ (by assumption) ?_
  · intro x hSx
    obtain ⟨q0, q1, q2, q3, q4⟩ := hSx
    go_simp
  simp only [Act.put, List.setIfInBounds_toArray, List.set_cons_zero, List.set_cons_succ]
  refine takeW (i := 5) (d := 55) (v := .pointer (some ⟨g, 0, none⟩)) rfl rfl (by kernel_rfl) (by kernel_rfl) (by kernel_rfl) (fun _ _ _ h => h) (by rfl) ?_ (by assumption) ?_
  · intro x hSx
    obtain ⟨q0, q1, q2, q3, q4⟩ := hSx
    go_simp
  simp only [Act.put, List.setIfInBounds_toArray, List.set_cons_zero, List.set_cons_succ]
  refine takeW (i := 6) (d := 56) (v := .pointer (some ⟨g, 1, none⟩)) rfl rfl (by kernel_rfl) (by kernel_rfl) (by kernel_rfl) (fun _ _ _ h => h) (by rfl) ?_ (by assumption) ?_
  · intro x hSx
    obtain ⟨q0, q1, q2, q3, q4⟩ := hSx
    go_simp
  simp only [Act.put, List.setIfInBounds_toArray, List.set_cons_zero, List.set_cons_succ]
  refine takeW (i := 7) (d := 57) (v := .string x) rfl rfl (by kernel_rfl) (by kernel_rfl) (by kernel_rfl) (fun _ _ _ h => h) (by rfl) ?_ (by assumption) ?_
  · intro x hSx
    obtain ⟨q0, q1, q2, q3, q4⟩ := hSx
    go_simp
  simp only [Act.put, List.setIfInBounds_toArray, List.set_cons_zero, List.set_cons_succ]
  refine wpAnyH_ready (rs := [8]) (by kernel_rfl) (by simp) ?_
  refine AllReadyH.cons rfl (fun K hK => ?_) AllReadyH.nil
  rw [if_pos (by rfl)]
  go_simp
  go_at_call 48
  refine (CS.out _ ?_).mono ?_
  · exact HGV.out.below (below_d HB.out (Below.refl _ _) rfl rfl rfl rfl)
  rintro e y ⟨rfl, hbx⟩
  replace HB := hide (below_d HB.out hbx rfl rfl rfl rfl)
  clear hbx
  refine hK.out _ _ (KS.out _ HB.out) (fun hHeld => ?_)
  clear hK K
  refine wpAnyH_ready (rs := [9]) (by kernel_rfl) (by simp) ?_
  refine AllReadyH.cons rfl (fun K hK => ?_) AllReadyH.nil
  have hyw := below_t5 HBV.out HB.out
  obtain ⟨v7, w7, hr7, hb7, hk7⟩ := app_s3 x (Hb6.out.later hyw) (Nat.le_trans HB6.out.size hyw.size) (by simp [nbT_len, hol, hx])
  have HR7 := hide hr7
  have k7 := (HKV.out.below HB.out).nb hk7.nb tr_ne
  have B7 : Below w.heap.size w w7 := (HB6.out.trans (hyw.mono HB6.out.size)).trans hk7.below
  have Hb7 := hide hb7
  clear hr7 hb7 hk7 hyw
  refine step_append_run _ (by rfl) _ _ _ _ (by rfl) _ _ (by rfl) (by rfl) _ _ HR7.out ?_
  refine hK.out _ _ ⟨k7.cell 0, k7.cell 1, k7.cell 2, k7.cell 3, H1.out _ B7⟩ (fun hHeld => ?_)
  simp only [List.getElem_toArray, List.getElem_cons_succ, List.getElem_cons_zero, Act.put, List.setIfInBounds_toArray, List.set_cons_zero, List.set_cons_succ]
  clear hK K
  refine takeW (i := 10) (d := 7) (v := v7) rfl rfl (by kernel_rfl) (by kernel_rfl) (by kernel_rfl) (fun _ _ _ h => h) (by rfl) ?_ (by assumption) ?_
  · intro x hSx
    obtain ⟨q0, q1, q2, q3, q4⟩ := hSx
    go_simp
  simp only [Act.put, List.setIfInBounds_toArray, List.set_cons_zero, List.set_cons_succ]
  refine wpAnyH_done (by kernel_rfl) ?_ _
  refine HA.out _ _ ?_
  clear HA KS HGV HB HKV HBw HBV
  have l6 := k7.cell 6
  simp at l6
  have HL7 := hide (show w7.drew.cell? ⟨w6.heap.size, 6, none⟩ = some (.int .i64 1) from l6)
  obtain ⟨v8, w8, hr8, hb8, hk8⟩ := app_z3 (W := w7.drew) Hb7.out B7.size (by simp [nbT_len, hol, ← Lib.size_eq, hx])
  have HR8 := hide hr8
  have Hb8 := hide hb8
  have k8 := (show Blk w7.drew w6.heap.size (c1 0 28 1) 56 from k7).nb hk8.nb tr_ne
  have m6 := k8.cell 6
  simp at m6
  have HL8 := hide m6
  have HB8 := hide (B7.drew.trans hk8.below)
  clear k7 k8 l6 m6 hr8 hb8 hk8 B7
  go_wp2_with fail
  rename_i kk0 kk1 kk2 kk3
  have HA := hide kk0
  clear kk0
  refine wp_region_held_drew (S := (fun y => y.cell? ⟨w6.heap.size, 6, none⟩ = some (.int .i64 1))) (by kernel_rfl) (HL7.out) (fun hHeld => ?_)
  refine takeW (i := 0) (d := 60) (v := v7) rfl rfl (by kernel_rfl) (by kernel_rfl) (by kernel_rfl) (fun _ _ _ h => h) (by rfl) ?_ (by assumption) ?_
  · intro x hSx
    have q0 := hSx
    go_simp
  simp only [Act.put, List.setIfInBounds_toArray, List.set_cons_zero, List.set_cons_succ]
  refine takeW (i := 1) (d := 61) (v := .pointer (some ⟨w6.heap.size, 6, none⟩)) rfl rfl (by kernel_rfl) (by kernel_rfl) (by kernel_rfl) (fun _ _ _ h => h) (by rfl) ?_ (by assumption) ?_
  · intro x hSx
    have q0 := hSx
    go_simp
  simp only [Act.put, List.setIfInBounds_toArray, List.set_cons_zero, List.set_cons_succ]
  refine takeW (i := 2) (d := 62) (v := .int .i64 1) rfl rfl (by kernel_rfl) (by kernel_rfl) (by kernel_rfl) (fun _ _ _ h => h) (by rfl) ?_ (by assumption) ?_
  · intro x hSx
    have q0 := hSx
    go_simp
  simp only [Act.put, List.setIfInBounds_toArray, List.set_cons_zero, List.set_cons_succ]
  refine takeW (i := 4) (d := 64) (v := .pointer (some ⟨w6.heap.size, 6, none⟩)) rfl rfl (by kernel_rfl) (by kernel_rfl) (by kernel_rfl) (fun _ _ _ h => h) (by rfl) ?_ (by assumption) ?_
  · intro x hSx
    have q0 := hSx
    go_simp
  simp only [Act.put, List.setIfInBounds_toArray, List.set_cons_zero, List.set_cons_succ]
  refine takeW (i := 5) (d := 65) (v := .int .i64 1) rfl rfl (by kernel_rfl) (by kernel_rfl) (by kernel_rfl) (fun _ _ _ h => h) (by rfl) ?_ (by assumption) ?_
  · intro x hSx
    have q0 := hSx
    go_simp
  simp only [Act.put, List.setIfInBounds_toArray, List.set_cons_zero, List.set_cons_succ]
  refine wpAnyH_ready (rs := [3]) (by kernel_rfl) (by simp) ?_
  refine AllReadyH.cons rfl (fun K hK => ?_) AllReadyH.nil
  rw [if_pos (by rfl)]
  go_simp
  go_at_call 54
  refine (CF.out _).mono ?_
  rintro e y9 ⟨rfl, hy9⟩
  replace hy9 := hy9.symm
  subst hy9
  refine hK.out _ _ hHeld (fun hHeld => ?_)
  clear hK K
  refine takeW (i := 6) (d := 66) (v := .int .i64 3) rfl rfl (by kernel_rfl) (by kernel_rfl) (by kernel_rfl) (fun _ _ _ h => h) (by rfl) ?_ (by assumption) ?_
  · intro x hSx
    have q0 := hSx
    go_simp
    rfl
  simp only [Act.put, List.setIfInBounds_toArray, List.set_cons_zero, List.set_cons_succ]
  refine wpAnyH_ready (rs := [7]) (by kernel_rfl) (by simp) ?_
  refine AllReadyH.cons rfl (fun K hK => ?_) AllReadyH.nil
  refine step_append_run _ (by rfl) _ _ _ _ (by rfl) _ _ (by rfl) (by rfl) _ _ HR8.out ?_
  refine hK.out _ _ HL8.out (fun hHeld => ?_)
  simp only [List.getElem_toArray, List.getElem_cons_succ, List.getElem_cons_zero, Act.put, List.setIfInBounds_toArray, List.set_cons_zero, List.set_cons_succ]
  clear hK K
  refine takeW (i := 8) (d := 7) (v := v8) rfl rfl (by kernel_rfl) (by kernel_rfl) (by kernel_rfl) (fun _ _ _ h => h) (by rfl) ?_ (by assumption) ?_
  · intro x hSx
    have q0 := hSx
    go_simp
  simp only [Act.put, List.setIfInBounds_toArray, List.set_cons_zero, List.set_cons_succ]
  refine wpAnyH_done (by kernel_rfl) ?_ _
  refine HA.out _ _ ?_
  clear HA
  go_wp2_with fail
  rw [rounds_succ]
  go_wp2_with fail
  obtain ⟨hbl, g0, g1, g2, g3, g4, g5, g6⟩ := HC.out.below HB8.out
  have hne : b ≠ w8.heap.size := by omega
  refine wp_loop_rounds 2 ?_
  rw [rounds_succ]
  go_wp2_with fail
  have hal := (Below.refl w8.heap.size w8).alloc (Nat.le_refl _) (.cells (c1 0 28 1) 56)
  refine (CH.out _ ?_).mono ?_
  · exact HG.out.below (HB8.out.trans (hal.mono HB8.out.size))
  rintro e w9 ⟨rfl, h9⟩
  have hw9 := below_t5 hal h9
  have hcv := BRow.text (Hb8.out.later hw9)
  rw [show openT 1 ++ [97, 98, 99, 100] ++ nbT 2013265920 4 ++ nbT 28 4 ++ nbT 1 4 ++ x.data.toList ++ [0, 0, 0] = T32 x from rfl] at hcv
  have HB9 := hide (HB8.out.trans (hw9.mono HB8.out.size))
  clear hal h9 hw9 g0 g1 g2 g3 g4 g5 g6 hne hbl
  go_wp2_with fail
  rw [rounds_succ]
  go_wp2_with fail
  go_ret
  exact ⟨rfl, HB9.out⟩
end Go.Proofs.YtgmmhlpdkoiheaaDoor
