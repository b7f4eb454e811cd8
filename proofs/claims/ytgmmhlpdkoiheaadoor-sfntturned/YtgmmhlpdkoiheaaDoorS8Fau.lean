/-
  What the landed summed answers of a table that is not head's, and fault of the one row of a file.
-/
import Derived.Test.YtgmmhlpdkoiheaaDoorS8Tgr
namespace Go.Proofs.YtgmmhlpdkoiheaaDoor
open Go.RowKit Go.Deep
set_option linter.unusedVariables false

theorem end_c (sum pl ln : Int) (w : World) (h : RwOk (rw1 sum pl ln)) : Calls Tryd.prog 27 #[.agg (c1 sum pl ln)] w fun e w' => e = .returned (.int .i64 (pl + ln)) ∧ Below w.heap.size w w' := end_any (rw1 sum pl ln) w h
abbrev t1 : Array Value := #[.int .u8 97, .int .u8 98, .int .u8 99, .int .u8 100]
theorem holds_c (n : Int) (w : World) (hg : Glo8 w) (h0 : 0 ≤ n) (h1 : n ≤ 140737488355328) : Calls Tryd.prog 56 #[.agg t1, .int .i64 n] w fun e w' => e = .returned (.bool false) ∧ Below w.heap.size w w' := by
  have h := holds_any 97 98 99 100 n w hg h0 h1
  have e : (isHd 97 98 99 100 && decide (12 ≤ n)) = false := by rw [show isHd 97 98 99 100 = false by decide]; rfl
  rw [e] at h
  exact h
set_option maxRecDepth 8000 in
theorem summed_c (s : ByteArray) (w : World) (hg : Glo8 w) (hs : s.size ≤ 140737488355328) : Calls Tryd.prog 48 #[.agg t1, .string s] w fun e w' => e = .returned (.string s) ∧ Below w.heap.size w w' := by
  have hb := (Below.refl w.heap.size w).alloc (Nat.le_refl _) (.cells t1 54)
  have C := hide (holds_c (s.size : Int) _ (hg.below hb) (by omega) (by omega))
  have HB := hide hb
  clear hb hg
  go_enter Tryd.func48, Tryd.ntmps48
  go_wp2_with (go_at_call 56; refine C.out.mono ?_; rintro e w1 ⟨rfl, h1⟩; have H1 := hide (below_t5 HB.out h1); clear h1)
  go_ret
  exact ⟨rfl, H1.out⟩
/- the file of the table abcd with x in it -/
abbrev F32 : ByteArray := ⟨#[0, 1, 0, 0, 0, 1, 0, 16, 0, 0, 0, 0, 97, 98, 99, 100, 120, 0, 0, 0, 0, 0, 0, 28, 0, 0, 0, 1, 120, 0, 0, 0]⟩
set_option maxRecDepth 8000 in
set_option maxHeartbeats 2000000 in
theorem fault_one (b c : Nat) (s x : ByteArray) (hs : s.size = 32) (hx : s.extract 28 29 = x) (hsum : sumV x.data.toList = 2013265920) (hxs : x.size = 1) (w : World) (h : Blk w b (c1 2013265920 28 1) 56) (hg : Glo8 w) :
    Calls Tryd.prog 25 #[.string s, .slice (some ⟨b, 0, none⟩) 1 c] w fun e w' => e = .returned (.int .i64 0) ∧ Below w.heap.size w w' := by
  have hb := h.lt
  have g0 := h.cell 0
  have g1 := h.cell 1
  have g2 := h.cell 2
  have g3 := h.cell 3
  have g4 := h.cell 4
  have g5 := h.cell 5
  have g6 := h.cell 6
  simp at g0 g1 g2 g3 g4 g5 g6
  have hne1 : b ≠ w.heap.size := by omega
  have HG := hide hg
  have CD := hide (fun w => dsize_any 1 w (by omega) (by omega))
  have CE := hide (fun w => end_c 2013265920 28 1 w (by unfold RwOk; simp))
  have hs1 : (s.size : Int) = 32 := by omega
  clear h
  go_enter Tryd.func25, Tryd.ntmps25
  go_wp2_with fail
  go_step3
  go_wp2_with fail
  go_step3
  go_wp2_with fail
  refine wp_loop_rounds 2 ?_
  rw [rounds_succ]
  go_wp2_with fail
  rename_i kk0
  have HA := hide kk0
  clear kk0
  have k1 := Blk.new w (c1 2013265920 28 1) 56
  have hb1 : Below w.heap.size w (w.alloc (.cells (c1 2013265920 28 1) 56)) := (Below.refl _ _).alloc (Nat.le_refl _) _
  generalize w.alloc (.cells (c1 2013265920 28 1) 56) = V at k1 hb1 ⊢
  have KS := hide (show ∀ x, Below V.heap.size V x → (fun x => x.cell? ⟨w.heap.size, 0, none⟩ = some (.int .u8 97) ∧ x.cell? ⟨w.heap.size, 1, none⟩ = some (.int .u8 98) ∧ x.cell? ⟨w.heap.size, 2, none⟩ = some (.int .u8 99) ∧ x.cell? ⟨w.heap.size, 3, none⟩ = some (.int .u8 100) ∧ x.cell? ⟨w.heap.size, 4, none⟩ = some (.int .i64 2013265920) ∧ x.cell? ⟨w.heap.size, 5, none⟩ = some (.int .i64 28) ∧ x.cell? ⟨w.heap.size, 6, none⟩ = some (.int .i64 1)) x from fun x hx => ⟨(k1.below hx).cell 0, (k1.below hx).cell 1, (k1.below hx).cell 2, (k1.below hx).cell 3, (k1.below hx).cell 4, (k1.below hx).cell 5, (k1.below hx).cell 6⟩)
  have HB := hide (Below.refl V.heap.size V)
  have HB1 := hide hb1
  have hsz : ∀ t : ByteArray, t = s.extract 28 29 → t = x := fun t ht => by rw [ht, hx]
  have CM := hide (show ∀ (t : ByteArray) (w : World), t = s.extract 28 29 → Calls Tryd.prog 10 #[.string t] w fun e w' => e = .returned (.int .i64 2013265920) ∧ w' = w from fun t w ht => by
    have hh := sum_any t w (by rw [hsz t ht]; omega)
    have e : sumV t.data.toList = 2013265920 := by rw [hsz t ht]; exact hsum
    rw [e] at hh
    exact hh)
  have CS := hide (fun (t : ByteArray) (x : World) (hbx : Below V.heap.size V x) (ht : t = s.extract 28 29) => summed_c t x ((HG.out.below hb1).below hbx) (by rw [hsz t ht]; omega))
  clear k1 hb1 g0 g1 g2 g3 g4 g5 g6 hx hsum hsz hxs
  go_region_held3 (fun x => x.cell? ⟨w.heap.size, 0, none⟩ = some (.int .u8 97) ∧ x.cell? ⟨w.heap.size, 1, none⟩ = some (.int .u8 98) ∧ x.cell? ⟨w.heap.size, 2, none⟩ = some (.int .u8 99) ∧ x.cell? ⟨w.heap.size, 3, none⟩ = some (.int .u8 100) ∧ x.cell? ⟨w.heap.size, 4, none⟩ = some (.int .i64 2013265920) ∧ x.cell? ⟨w.heap.size, 5, none⟩ = some (.int .i64 28) ∧ x.cell? ⟨w.heap.size, 6, none⟩ = some (.int .i64 1)) (first | exact KS.out _ (below_d HB.out (Below.refl _ _) rfl rfl rfl rfl) | go_keep) ((first | (go_at_call 27; refine (CE.out _).mono ?_; rintro e x ⟨rfl, hbx⟩; replace HB := hide (below_d HB.out hbx rfl rfl rfl rfl); clear hbx) | (go_at_call 44; refine (CD.out _).mono ?_; rintro e x ⟨rfl, rfl⟩)))
  refine HA.out _ _ ?_
  clear HA
  go_wp2_with fail
  refine wp_loop_rounds 1 ?_
  rw [rounds_succ]
  go_wp2_with fail
  rename_i kk1
  have HA := hide kk1
  clear kk1
  go_region_held3 (fun x => x.cell? ⟨w.heap.size, 0, none⟩ = some (.int .u8 97) ∧ x.cell? ⟨w.heap.size, 1, none⟩ = some (.int .u8 98) ∧ x.cell? ⟨w.heap.size, 2, none⟩ = some (.int .u8 99) ∧ x.cell? ⟨w.heap.size, 3, none⟩ = some (.int .u8 100) ∧ x.cell? ⟨w.heap.size, 4, none⟩ = some (.int .i64 2013265920) ∧ x.cell? ⟨w.heap.size, 5, none⟩ = some (.int .i64 28) ∧ x.cell? ⟨w.heap.size, 6, none⟩ = some (.int .i64 1)) (first | exact KS.out _ (below_d HB.out (Below.refl _ _) rfl rfl rfl rfl) | go_keep) ((first | (go_at_call 27; refine (CE.out _).mono ?_; rintro e x ⟨rfl, hbx⟩; replace HB := hide (below_d HB.out hbx rfl rfl rfl rfl); clear hbx) | (go_at_call 48; refine (CS.out _ _ (below_d HB.out (Below.refl _ _) rfl rfl rfl rfl) rfl).mono ?_; rintro e x ⟨rfl, hbx⟩; replace HB := hide (below_d HB.out hbx rfl rfl rfl rfl); clear hbx) | (go_at_call 10; refine (CM.out _ _ rfl).mono ?_; rintro e x ⟨rfl, rfl⟩)))
  all_goals
    refine HA.out _ _ ?_
    go_wp2_with fail
    rw [rounds_succ]
    go_wp2_with fail
    rw [Exit.noGoto_ret]
    go_ret
    exact ⟨rfl, below_t5 HB1.out (below_d HB.out (Below.refl _ _) rfl rfl rfl rfl)⟩
end Go.Proofs.YtgmmhlpdkoiheaaDoor
