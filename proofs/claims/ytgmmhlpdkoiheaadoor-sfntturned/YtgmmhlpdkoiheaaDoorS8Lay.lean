/-
  What the landed lay answers of one table.
-/
import Derived.Test.YtgmmhlpdkoiheaaDoorS8App
namespace Go.Proofs.YtgmmhlpdkoiheaaDoor
open Go.RowKit Go.Deep
set_option linter.unusedVariables false
set_option linter.unusedSimpArgs false

theorem copy_tag (V : World) (b : Nat) (x4 x5 x6 : Value) (k : Blk V b #[.int .u8 0, .int .u8 0, .int .u8 0, .int .u8 0, x4, x5, x6] 56) :
    ∃ W2, (Builtin.copy_ #[45, 9] 3 #[.slice (some ⟨b, 0, none⟩) 4 4, .string abcd]).run Tryd.prog V = .ok (.int .i64 4) W2 ∧ Blk W2 b #[.int .u8 97, .int .u8 98, .int .u8 99, .int .u8 100, x4, x5, x6] 56 ∧ Below b V W2 := by
  have hcp := run_copy_str8 V 3 b 0 4 4 abcd (by decide) (fun j hj => by rw [Nat.zero_add, k.cell j]; simp; omega) (fun j hj => k.frozen _)
  have h0 : Blk (V.setCell ⟨b, 0, none⟩ (.int .u8 97)) b #[.int .u8 97, .int .u8 0, .int .u8 0, .int .u8 0, x4, x5, x6] 56 := k.set 0 _
  have h1 : Blk ((V.setCell ⟨b, 0, none⟩ (.int .u8 97)).setCell ⟨b, 1, none⟩ (.int .u8 98)) b #[.int .u8 97, .int .u8 98, .int .u8 0, .int .u8 0, x4, x5, x6] 56 := h0.set 1 _
  have h2 : Blk (((V.setCell ⟨b, 0, none⟩ (.int .u8 97)).setCell ⟨b, 1, none⟩ (.int .u8 98)).setCell ⟨b, 2, none⟩ (.int .u8 99)) b #[.int .u8 97, .int .u8 98, .int .u8 99, .int .u8 0, x4, x5, x6] 56 := h1.set 2 _
  have h3 : Blk ((((V.setCell ⟨b, 0, none⟩ (.int .u8 97)).setCell ⟨b, 1, none⟩ (.int .u8 98)).setCell ⟨b, 2, none⟩ (.int .u8 99)).setCell ⟨b, 3, none⟩ (.int .u8 100)) b #[.int .u8 97, .int .u8 98, .int .u8 99, .int .u8 100, x4, x5, x6] 56 := h2.set 3 _
  refine ⟨_, hcp, h3, ?_⟩
  exact ((((Below.refl b V).setCell (p := ⟨b, 0, none⟩) (Nat.le_refl _) (.int .u8 97)).setCell (p := ⟨b, 1, none⟩) (Nat.le_refl _) (.int .u8 98)).setCell (p := ⟨b, 2, none⟩) (Nat.le_refl _) (.int .u8 99)).setCell (p := ⟨b, 3, none⟩) (Nat.le_refl _) (.int .u8 100)
theorem app_row {W : World} (sum pl ln : Int) (H : Nat) (hH : W.heap.size = H) :
    ∃ g cap w2, (Builtin.append_ #[49, 49] 49 #[.slice none 0 0, .slice (some ⟨H, 0, none⟩) 1 1]).run Tryd.prog (W.alloc (.cells (c1 sum pl ln) 56)) = .ok (.slice (some ⟨g, 0, none⟩) 1 cap) w2 ∧ C7 w2 g sum pl ln ∧ Below W.heap.size W w2 := by
  obtain ⟨i0, hi, hz0, hz1, hz2⟩ := info_parts5 info_row
  subst hH
  have hnil : (W.alloc (.cells (c1 sum pl ln) 56)).ownsRow W.heap.size 56 7 (.slice none 0 0) 0 [] := World.ownsRow_nil _ _ _ _
  obtain ⟨g, cap, w2, hr, ho, hg, _, _⟩ := run_append_lies (P := Tryd.prog) (W.alloc (.cells (c1 sum pl ln) 56)) 49 49 W.heap.size 56 i0 _ 7 32 Tryd.underlying49 hi hz0 hz1 hz2 rfl (by decide) (.slice none 0 0) 0 [] hnil ⟨W.heap.size, 0, none⟩ 1 1 (c1 sum pl ln).toList (by simp)
    (fun j u hu => by rw [Go.WideShapes.add_plain, Nat.zero_add, World.cell?_alloc_at _ _ _ _ rfl]; simpa using hu) (fun u hu => by simp at hu; rcases hu with rfl | rfl | rfl | rfl | rfl | rfl | rfl <;> rfl) (by decide) (by unfold maxLen; omega) (by omega) (by simp) (W.heap.size + 1) (by simp)
  have hc : ∀ j, j < 7 → w2.cell? ⟨g, j, none⟩ = (c1 sum pl ln).toList[j]? := fun j hj => World.ownsRow.cellAt ho j (by omega)
  refine ⟨g, cap, w2, hr, ⟨(World.ownsRow.lt ho g rfl).2, hc 0 (by omega), hc 1 (by omega), hc 2 (by omega), hc 3 (by omega), hc 4 (by omega), hc 5 (by omega), hc 6 (by omega)⟩, ((Below.refl W.heap.size W).alloc (Nat.le_refl _) _).grown hg (by simp) fun k hk' => (World.ownsRow.lt hnil k hk').1⟩
set_option maxRecDepth 8000 in
set_option maxHeartbeats 2000000 in
theorem lay_one (g c : Nat) (x : ByteArray) (hx : x.size = 1) (w : World) (hg : g < w.heap.size) (h0 : w.cell? ⟨g, 0, none⟩ = some (.string abcd)) (h1 : w.cell? ⟨g, 1, none⟩ = some (.string x)) :
    Calls Tryd.prog 37 #[.slice (some ⟨g, 0, none⟩) 1 c] w fun e w' => ∃ b cap, e = .returned (.tuple #[.slice (some ⟨b, 0, none⟩) 1 cap, .int .i64 32, .bool true]) ∧ C7 w' b 0 28 1 ∧ Below w.heap.size w w' := by
  have CD1 := hide (show ∀ (w : World), Calls Tryd.prog 44 #[.int .i64 1] w fun e w' => e = .returned (.int .i64 28) ∧ w' = w from fun w => dsize_any 1 w (by omega) (by omega))
  have CF := hide (show ∀ (w : World), Calls Tryd.prog 54 #[.int .i64 1] w fun e w' => e = .returned (.int .i64 4) ∧ w' = w from fun w => filled_any 1 w (by omega) (by omega))
  have hxi : (x.size : Int) = 1 := by omega
  have hab : abcd.size = 4 := by decide
  have hne : g ≠ w.heap.size := by omega
  go_enter Tryd.func37, Tryd.ntmps37
  go_wp2_with (go_at_call 44; refine (CD1.out _).mono ?_; rintro e w' ⟨rfl, hw'⟩; replace hw' := hw'.symm; subst hw')
  refine wp_loop_rounds 2 ?_
  rw [rounds_succ]
  go_wp2_with fail
  rename_i kk0
  have HA := hide kk0
  clear kk0
  have k0 := (Blk.new w #[.string abcd, .string x] 43).below ((Below.refl _ _).alloc (Nat.le_refl _) (.cells #[.int .u8 0, .int .u8 0, .int .u8 0, .int .u8 0, .int .i64 0, .int .i64 28, .int .i64 1] 56))
  have k1 := Blk.new (w.alloc (.cells #[.string abcd, .string x] 43)) #[.int .u8 0, .int .u8 0, .int .u8 0, .int .u8 0, .int .i64 0, .int .i64 28, .int .i64 1] 56
  rw [show (w.alloc (.cells #[.string abcd, .string x] 43)).heap.size = w.heap.size + 1 by simp] at k1
  have hbv : Below w.heap.size w ((w.alloc (.cells #[.string abcd, .string x] 43)).alloc (.cells #[.int .u8 0, .int .u8 0, .int .u8 0, .int .u8 0, .int .i64 0, .int .i64 28, .int .i64 1] 56)) := ((Below.refl _ _).alloc (Nat.le_refl _) _).alloc (by simp) _
  generalize (w.alloc (.cells #[.string abcd, .string x] 43)).alloc (.cells #[.int .u8 0, .int .u8 0, .int .u8 0, .int .u8 0, .int .i64 0, .int .i64 28, .int .i64 1] 56) = V at k0 k1 hbv ⊢
  obtain ⟨W2, hcp, K2, hB2⟩ := copy_tag V.drew (w.heap.size + 1) _ _ _ k1
  have k02 : Blk W2 w.heap.size #[.string abcd, .string x] 43 := (show Blk V.drew w.heap.size #[.string abcd, .string x] 43 from k0).kept hB2 (by omega)
  have HS1 := hide (show V.drew.cell? ⟨w.heap.size, 0, none⟩ = some (.string abcd) from k0.cell 0)
  have HS2 := hide (show W2.cell? ⟨w.heap.size, 0, none⟩ = some (.string abcd) from k02.cell 0)
  have HCP := hide hcp
  have hB2' : Below w.heap.size w W2 := (Below.drew hbv).trans (hB2.mono (by omega))
  obtain ⟨b, cap, w3, hr3, hC3, hB3⟩ := app_row (W := W2) 0 28 1 _ rfl
  have K3 := K2.below hB3
  have HR3 := hide hr3
  have HC3 := hide hC3
  have HB3 := hide (below_t5 hB2' hB3)
  obtain ⟨r0, r1, r2, r3, r4, r5, r6⟩ := C7.of K2
  have l6 := K3.cell 6
  simp at l6
  have CT := hide (tagsRise_one 0 28 1 b cap w3 hC3)
  clear hcp k0 k1 hbv k02 hB2 hB2' K2 K3 hr3 hC3 hB3 h0 h1 hne hg hx
  refine wp_region_held_drew (S := (fun x => x.cell? ⟨w.heap.size, 0, none⟩ = some (.string abcd))) (by kernel_rfl) (HS1.out) (fun hHeld => ?_)
  refine takeW (i := 0) (d := 28) (v := .pointer (some ⟨w.heap.size + 1, 0, none⟩)) rfl rfl (by kernel_rfl) (by kernel_rfl) (by kernel_rfl) (fun _ _ _ h => h) (by rfl) ?_ (by assumption) ?_
  · intro x hSx
    have q0 := hSx
    go_simp
  simp only [Act.put, List.setIfInBounds_toArray, List.set_cons_zero, List.set_cons_succ]
  refine takeW (i := 1) (d := 29) (v := .slice (some ⟨w.heap.size + 1, 0, none⟩) 4 4) rfl rfl (by kernel_rfl) (by kernel_rfl) (by kernel_rfl) (fun _ _ _ h => h) (by rfl) ?_ (by assumption) ?_
  · intro x hSx
    have q0 := hSx
    go_simp
  simp only [Act.put, List.setIfInBounds_toArray, List.set_cons_zero, List.set_cons_succ]
  refine takeW (i := 2) (d := 30) (v := .pointer (some ⟨w.heap.size, 0, none⟩)) rfl rfl (by kernel_rfl) (by kernel_rfl) (by kernel_rfl) (fun _ _ _ h => h) (by rfl) ?_ (by assumption) ?_
  · intro x hSx
    have q0 := hSx
    go_simp
  simp only [Act.put, List.setIfInBounds_toArray, List.set_cons_zero, List.set_cons_succ]
  refine takeW (i := 3) (d := 31) (v := .string abcd) rfl rfl (by kernel_rfl) (by kernel_rfl) (by kernel_rfl) (fun _ _ _ h => h) (by rfl) ?_ (by assumption) ?_
  · intro x hSx
    have q0 := hSx
    go_simp
  simp only [Act.put, List.setIfInBounds_toArray, List.set_cons_zero, List.set_cons_succ]
  refine wpAnyH_ready (rs := [4]) (by kernel_rfl) (by simp) ?_
  refine AllReadyH.cons rfl (fun K hK => ?_) AllReadyH.nil
  rw [if_pos (by rfl)]
  refine Lib.wp_copy_run _ _ _ _ _ rfl _ _ rfl rfl HCP.out ?_
  refine hK.out _ _ HS2.out (fun hHeld => ?_)
  clear hK K
  refine wpAnyH_done (by kernel_rfl) ?_ _
  refine HA.out _ _ ?_
  clear HA HS1 HS2 HCP
  go_wp2_with (first | (at_builtin; refine Lib.wpList_append_run _ rfl _ _ _ _ rfl _ _ rfl rfl _ _ HR3.out ?_) | (go_at_call 54; refine (CF.out _).mono ?_; rintro e w' ⟨rfl, hw'⟩; replace hw' := hw'.symm; subst hw'))
  rw [rounds_succ]
  go_wp2_with (go_at_call 46; refine CT.out.mono ?_; rintro e w9 ⟨rfl, h9⟩)
  go_ret3
  exact ⟨_, _, rfl, HC3.out.below h9, below_t5 HB3.out h9⟩
end Go.Proofs.YtgmmhlpdkoiheaaDoor
