/-
  Rows of tables; what strings.Clone answers; what the landed Read answers of the file of one table.
-/
import Derived.Test.YtgmmhlpdkoiheaaDoorS8Dir
namespace Go.Proofs.YtgmmhlpdkoiheaaDoor
open Go.RowKit Go.Deep
set_option linter.unusedVariables false
set_option linter.unusedSimpArgs false

theorem step_append_run {P : Program} (w : World) {ops : Array Oper} {o : Oper} {a : Act} {K : Act → World → Prop} {Q : Exit → Act → World → Prop} {E : Prop} (hgd : o.guard = none) (s x : Operand) (t tn : TypeId)
    (ho : o.op = .call { callee := .builtin .append, args := #[s, x], argTypes := #[t, tn] }) (vs vx : Value) (hs : a.eval s = vs) (hx : a.eval x = vx)
    (v' : Value) (w' : World) (hr : (Builtin.append_ #[t, tn] o.type #[vs, vx]).run P w = .ok v' w') (h : K (a.put o.dst v') w') :
    if Region.wanted o (yielded ops a.tmps) = true then Oper.wp P o a w K Q else E := by
  rw [if_pos (by simp [Region.wanted, hgd])]
  exact Lib.wp_append_run w s x t tn ho vs vx hs hx v' w' hr h
theorem info_tab : (Tryd.prog.info? 43).map (fun i => (i.zero, i.size, i.bytes)) = some (some (.agg #[.string ByteArray.empty, .string ByteArray.empty]), 2, 32) := by kernel_rfl
def tcs (l : List (ByteArray × ByteArray)) : List Value := l.flatMap fun x => [.string x.1, .string x.2]
theorem tcs_len : ∀ l, (tcs l).length = l.length * 2
  | [] => rfl
  | x :: l => by
    have := tcs_len l
    unfold tcs at *
    rw [List.flatMap_cons, List.length_append, this, List.length_cons]
    simp
    omega
theorem tcs_one (l : List (ByteArray × ByteArray)) : ∀ u ∈ tcs l, u.oneCell' = true := fun u hu => by
  unfold tcs at hu
  obtain ⟨x, _, h⟩ := List.mem_flatMap.1 hu
  simp at h
  rcases h with rfl | rfl <;> rfl
def TbRow (w : World) (B : Nat) (v : Value) (l : List (ByteArray × ByteArray)) : Prop := w.ownsRow B 43 2 v l.length (tcs l)
theorem app_tab {W : World} {B : Nat} {v : Value} {l : List (ByteArray × ByteArray)} (x : ByteArray × ByteArray) (h : TbRow W B v l) (hB : B ≤ W.heap.size) (hl : l.length ≤ 1000) (H : Nat) (hH : W.heap.size = H) :
    ∃ g cap w2, (Builtin.append_ #[27, 27] 27 #[v, .slice (some ⟨H, 0, none⟩) 1 1]).run Tryd.prog (W.alloc (.cells #[.string x.1, .string x.2] 43)) = .ok (.slice (some ⟨g, 0, none⟩) (l.length + 1) cap) w2 ∧ TbRow w2 B (.slice (some ⟨g, 0, none⟩) (l.length + 1) cap) (l ++ [x]) ∧ Below B W w2 := by
  obtain ⟨i0, hi, hz0, hz1, hz2⟩ := info_parts5 info_tab
  subst hH
  obtain ⟨g, cap, w2, hr, ho, hg, _, _⟩ := run_append_lies (P := Tryd.prog) (W.alloc (.cells #[.string x.1, .string x.2] 43)) 27 27 B 43 i0 _ 2 32 Tryd.underlying27 hi hz0 hz1 hz2 rfl (by decide) v l.length (tcs l) (World.ownsRow.alloc h _) ⟨W.heap.size, 0, none⟩ 1 1 [.string x.1, .string x.2] (by simp)
    (fun j u hu => by rw [Go.WideShapes.add_plain, Nat.zero_add, World.cell?_alloc_at _ _ _ _ rfl]; simpa using hu) (fun u hu => by simp at hu; rcases hu with rfl | rfl <;> rfl) (by decide) (by unfold maxLen; omega) (by omega) (by simp; omega) (W.heap.size + 1) (by simp)
  refine ⟨g, cap, w2, hr, ?_, ((Below.refl B W).alloc hB _).grown hg (by simp; omega) fun k hk' => (World.ownsRow.lt h k hk').1⟩
  unfold TbRow
  have e : tcs (l ++ [x]) = tcs l ++ [.string x.1, .string x.2] := by unfold tcs; simp
  rw [e, List.length_append]
  exact ho
theorem TbRow.nil (w : World) (B : Nat) : TbRow w B (.slice none 0 0) [] := World.ownsRow_nil _ _ _ _
theorem TbRow.mono {w : World} {B B' : Nat} {v : Value} {l : List (ByteArray × ByteArray)} (h : TbRow w B v l) (hB : B' ≤ B) : TbRow w B' v l := by
  obtain ⟨h1, h2 | ⟨g, cap, cur, hv, hg, hr⟩⟩ := h
  · exact ⟨h1, Or.inl h2⟩
  · exact ⟨h1, Or.inr ⟨g, cap, cur, hv, Nat.le_trans hB hg, hr⟩⟩
theorem TbRow.cell {w : World} {B g cap : Nat} {l : List (ByteArray × ByteArray)} (h : TbRow w B (.slice (some ⟨g, 0, none⟩) l.length cap) l) (j : Nat) (hj : j < l.length * 2) : w.cell? ⟨g, j, none⟩ = (tcs l)[j]? := by
  have := World.ownsRow.cellAt h j (by omega)
  exact this
theorem clone_any (s : ByteArray) (w : World) (hs : s.size ≤ 281474976710656) : Calls Tryd.prog 26 #[.string s] w fun e w' => e = .returned (.string s) ∧ Below w.heap.size w w' := by
  have C := hide (show Calls Tryd.prog 49 #[.string s] w fun e w' => e = .returned (.string s) ∧ Below w.heap.size w w' from Any.stringslite_Clone laysM316 s w hs)
  go_enter Tryd.func26, Tryd.ntmps26
  go_wp2_with (go_at_call 49; refine C.out.mono ?_; rintro e w1 ⟨rfl, h1⟩)
  go_ret
  exact ⟨rfl, h1⟩
abbrev abcd : ByteArray := ⟨#[97, 98, 99, 100]⟩
set_option maxRecDepth 8000 in
set_option maxHeartbeats 2000000 in
theorem read_one (s x : ByteArray) (hs : One s) (hx : s.extract 28 29 = x) (hsum : sumV x.data.toList = 2013265920) (hxs : x.size = 1) (w : World) (hg : Glo8 w) :
    Calls Tryd.prog 13 #[.string s] w fun e w' => ∃ g cap, e = .returned (.tuple #[.slice (some ⟨g, 0, none⟩) 1 cap, .int .i64 0]) ∧ TbRow w' w.heap.size (.slice (some ⟨g, 0, none⟩) 1 cap) [(abcd, x)] ∧ Below w.heap.size w w' := by
  have h32 := hs.size
  have hs1 : (s.size : Int) = 32 := by omega
  have CDR := hide (directory_one s hs w)
  have CF := hide (fun b w h hg => fault_one b 1 s x h32 hx hsum hxs w h hg)
  have CE := hide (fun w => end_c 2013265920 28 1 w (by unfold RwOk; simp))
  have CC := hide (fun (t : ByteArray) (w : World) (ht : t = s.extract 28 29) => clone_any t w (by rw [ht, hx]; omega))
  have HG := hide hg
  have HX := hide hx
  clear hg hs hx hsum hxs
  go_enter Tryd.func13, Tryd.ntmps13
  go_wp2_with fail
  refine CDR.out.mono ?_
  rintro e w1 ⟨b, rfl, hk1, hb1⟩
  have CF1 := hide (CF.out b w1 hk1 (HG.out.below hb1))
  have HK1 := hide hk1
  have HB1 := hide hb1
  clear hk1 hb1
  go_wp2_with fail
  refine CF1.out.mono ?_
  rintro e w2 ⟨rfl, hb2⟩
  have hk2 := HK1.out.below hb2
  have hblt := hk2.lt
  have g0 := hk2.cell 0
  have g1 := hk2.cell 1
  have g2 := hk2.cell 2
  have g3 := hk2.cell 3
  have g4 := hk2.cell 4
  have g5 := hk2.cell 5
  have g6 := hk2.cell 6
  simp at g0 g1 g2 g3 g4 g5 g6
  have HB2 := hide (below_t5 HB1.out hb2)
  have hne : b ≠ w2.heap.size := by omega
  clear hb2 hk2
  go_wp2_with fail
  refine wp_loop_rounds 2 ?_
  rw [rounds_succ]
  go_wp2_with fail
  rename_i kk0
  have HA := hide kk0
  clear kk0
  have k3 := Blk.new w2 (c1 2013265920 28 1) 56
  have hb3 : Below w2.heap.size w2 (w2.alloc (.cells (c1 2013265920 28 1) 56)) := (Below.refl _ _).alloc (Nat.le_refl _) _
  generalize w2.alloc (.cells (c1 2013265920 28 1) 56) = V at k3 hb3 ⊢
  have KS := hide (show ∀ x, Below V.heap.size V x → (fun x => (convert 45 9 (.slice (some ⟨w2.heap.size, 0, none⟩) 4 4)).run Tryd.prog x = .ok (.string abcd) x ∧ x.cell? ⟨w2.heap.size, 0, none⟩ = some (.int .u8 97) ∧ x.cell? ⟨w2.heap.size, 1, none⟩ = some (.int .u8 98) ∧ x.cell? ⟨w2.heap.size, 2, none⟩ = some (.int .u8 99) ∧ x.cell? ⟨w2.heap.size, 3, none⟩ = some (.int .u8 100) ∧ x.cell? ⟨w2.heap.size, 4, none⟩ = some (.int .i64 2013265920) ∧ x.cell? ⟨w2.heap.size, 5, none⟩ = some (.int .i64 28) ∧ x.cell? ⟨w2.heap.size, 6, none⟩ = some (.int .i64 1)) x from fun x hx => by
    have k := k3.below hx
    refine ⟨?_, k.cell 0, k.cell 1, k.cell 2, k.cell 3, k.cell 4, k.cell 5, k.cell 6⟩
    refine run_convert_bytes_back (P := Tryd.prog) x 45 9 5 ⟨w2.heap.size, 0, none⟩ 4 [97, 98, 99, 100] Tryd.underlying45 Tryd.underlying5 Tryd.underlying9 ?_
    intro j hj
    rw [Go.WideShapes.add_plain, Nat.zero_add, k.cell j]
    match j, hj with
    | 0, _ => rfl
    | 1, _ => rfl
    | 2, _ => rfl
    | 3, _ => rfl)
  have HB := hide (Below.refl V.heap.size V)
  have HBV := hide (below_t5 HB2.out hb3)
  clear k3 hb3 g0 g1 g2 g3 g4 g5 g6 hne
  refine wp_region_held_drew (S := (fun x => (convert 45 9 (.slice (some ⟨w2.heap.size, 0, none⟩) 4 4)).run Tryd.prog x = .ok (.string abcd) x ∧ x.cell? ⟨w2.heap.size, 0, none⟩ = some (.int .u8 97) ∧ x.cell? ⟨w2.heap.size, 1, none⟩ = some (.int .u8 98) ∧ x.cell? ⟨w2.heap.size, 2, none⟩ = some (.int .u8 99) ∧ x.cell? ⟨w2.heap.size, 3, none⟩ = some (.int .u8 100) ∧ x.cell? ⟨w2.heap.size, 4, none⟩ = some (.int .i64 2013265920) ∧ x.cell? ⟨w2.heap.size, 5, none⟩ = some (.int .i64 28) ∧ x.cell? ⟨w2.heap.size, 6, none⟩ = some (.int .i64 1))) (by kernel_rfl) (KS.out _ ((Below.refl _ _).drew)) (fun hHeld => ?_)
  refine takeW (i := 0) (d := 32) (v := .slice none 0 0) rfl rfl (by kernel_rfl) (by kernel_rfl) (by kernel_rfl) (fun _ _ _ h => h) (by rfl) ?_ (by assumption) ?_
  · intro x hSx
    obtain ⟨q0, q1, q2, q3, q4, q5, q6, q7⟩ := hSx
    go_simp
  simp only [Act.put, List.setIfInBounds_toArray, List.set_cons_zero, List.set_cons_succ]
  refine takeW (i := 1) (d := 33) (v := .pointer (some ⟨w2.heap.size, 0, none⟩)) rfl rfl (by kernel_rfl) (by kernel_rfl) (by kernel_rfl) (fun _ _ _ h => h) (by rfl) ?_ (by assumption) ?_
  · intro x hSx
    obtain ⟨q0, q1, q2, q3, q4, q5, q6, q7⟩ := hSx
    go_simp
  simp only [Act.put, List.setIfInBounds_toArray, List.set_cons_zero, List.set_cons_succ]
  refine takeW (i := 2) (d := 34) (v := .slice (some ⟨w2.heap.size, 0, none⟩) 4 4) rfl rfl (by kernel_rfl) (by kernel_rfl) (by kernel_rfl) (fun _ _ _ h => h) (by rfl) ?_ (by assumption) ?_
  · intro x hSx
    obtain ⟨q0, q1, q2, q3, q4, q5, q6, q7⟩ := hSx
    go_simp
  simp only [Act.put, List.setIfInBounds_toArray, List.set_cons_zero, List.set_cons_succ]
  refine takeW (i := 3) (d := 35) (v := .string abcd) rfl rfl (by kernel_rfl) (by kernel_rfl) (by kernel_rfl) (fun _ _ _ h => h) (by rfl) ?_ (by assumption) ?_
  · intro x hSx
    obtain ⟨q0, q1, q2, q3, q4, q5, q6, q7⟩ := hSx
    go_simp
  simp only [Act.put, List.setIfInBounds_toArray, List.set_cons_zero, List.set_cons_succ]
  refine takeW (i := 4) (d := 36) (v := .string s) rfl rfl (by kernel_rfl) (by kernel_rfl) (by kernel_rfl) (fun _ _ _ h => h) (by rfl) ?_ (by assumption) ?_
  · intro x hSx
    obtain ⟨q0, q1, q2, q3, q4, q5, q6, q7⟩ := hSx
    go_simp
  simp only [Act.put, List.setIfInBounds_toArray, List.set_cons_zero, List.set_cons_succ]
  refine takeW (i := 5) (d := 37) (v := .pointer (some ⟨w2.heap.size, 5, none⟩)) rfl rfl (by kernel_rfl) (by kernel_rfl) (by kernel_rfl) (fun _ _ _ h => h) (by rfl) ?_ (by assumption) ?_
  · intro x hSx
    obtain ⟨q0, q1, q2, q3, q4, q5, q6, q7⟩ := hSx
    go_simp
  simp only [Act.put, List.setIfInBounds_toArray, List.set_cons_zero, List.set_cons_succ]
  refine takeW (i := 6) (d := 38) (v := .int .i64 28) rfl rfl (by kernel_rfl) (by kernel_rfl) (by kernel_rfl) (fun _ _ _ h => h) (by rfl) ?_ (by assumption) ?_
  · intro x hSx
    obtain ⟨q0, q1, q2, q3, q4, q5, q6, q7⟩ := hSx
    go_simp
  simp only [Act.put, List.setIfInBounds_toArray, List.set_cons_zero, List.set_cons_succ]
  refine takeW (i := 7) (d := 39) (v := .agg (c1 2013265920 28 1)) rfl rfl (by kernel_rfl) (by kernel_rfl) (by kernel_rfl) (fun _ _ _ h => h) (by rfl) ?_ (by assumption) ?_
  · intro x hSx
    obtain ⟨q0, q1, q2, q3, q4, q5, q6, q7⟩ := hSx
    go_simp
  simp only [Act.put, List.setIfInBounds_toArray, List.set_cons_zero, List.set_cons_succ]
  refine wpAnyH_ready (rs := [8]) (by kernel_rfl) (by simp) ?_
  refine AllReadyH.cons rfl (fun K hK => ?_) AllReadyH.nil
  rw [if_pos (by rfl)]
  go_simp
  go_at_call 27
  refine (CE.out _).mono ?_
  rintro e y ⟨rfl, hbx⟩
  replace HB := hide (below_d HB.out hbx rfl rfl rfl rfl)
  clear hbx
  refine hK.out _ _ (KS.out _ (below_d HB.out (Below.refl _ _) rfl rfl rfl rfl)) (fun hHeld => ?_)
  clear hK K
  refine takeW (i := 9) (d := 41) (v := .string (s.extract 28 29)) rfl rfl (by kernel_rfl) (by kernel_rfl) (by kernel_rfl) (fun _ _ _ h => h) (by rfl) ?_ (by assumption) ?_
  · intro x hSx
    obtain ⟨q0, q1, q2, q3, q4, q5, q6, q7⟩ := hSx
    go_simp
  simp only [Act.put, List.setIfInBounds_toArray, List.set_cons_zero, List.set_cons_succ]
  refine wpAnyH_ready (rs := [10]) (by kernel_rfl) (by simp) ?_
  refine AllReadyH.cons rfl (fun K hK => ?_) AllReadyH.nil
  rw [if_pos (by rfl)]
  go_simp
  go_at_call 26
  refine (CC.out _ _ rfl).mono ?_
  rintro e y2 ⟨rfl, hbx⟩
  replace HB := hide (below_d HB.out hbx rfl rfl rfl rfl)
  clear hbx
  refine hK.out _ _ (KS.out _ (below_d HB.out (Below.refl _ _) rfl rfl rfl rfl)) (fun hHeld => ?_)
  clear hK K
  refine takeW (i := 11) (d := 43) (v := .agg #[.string abcd, .string (s.extract 28 29)]) rfl rfl (by kernel_rfl) (by kernel_rfl) (by kernel_rfl) (fun _ _ _ h => h) (by rfl) ?_ (by assumption) ?_
  · intro x hSx
    obtain ⟨q0, q1, q2, q3, q4, q5, q6, q7⟩ := hSx
    go_simp
  simp only [Act.put, List.setIfInBounds_toArray, List.set_cons_zero, List.set_cons_succ]
  refine wpAnyH_ready (rs := [12]) (by kernel_rfl) (by simp) ?_
  refine AllReadyH.cons rfl (fun K hK => ?_) AllReadyH.nil
  rw [if_pos (by rfl)]
  go_simp
  have hal := (Below.refl y2.heap.size y2).alloc (Nat.le_refl _) (.cells #[.string abcd, .string (s.extract 28 29)] 43)
  obtain ⟨g, cap, w9, hr, hT, hBT⟩ := app_tab (abcd, s.extract 28 29) (TbRow.nil y2 y2.heap.size) (Nat.le_refl _) (by simp) y2.heap.size rfl
  have HR := hide hr
  have HT := hide hT
  have HBT := hide hBT
  have HY2 := hide HB.out.size
  refine hK.out _ _ (KS.out _ (below_t5 HB.out hal)) (fun hHeld => ?_)
  clear hal hr hT hBT
  clear hK K
  refine wpAnyH_ready (rs := [13]) (by kernel_rfl) (by simp) ?_
  refine AllReadyH.cons rfl (fun K hK => ?_) AllReadyH.nil
  refine step_append_run _ (by rfl) _ _ _ _ (by rfl) _ _ (by rfl) (by rfl) _ _ HR.out ?_
  replace HB := hide (below_t5 HB.out HBT.out)
  refine hK.out _ _ (KS.out _ HB.out) (fun hHeld => ?_)
  clear hK K
  refine takeW (i := 14) (d := 7) (v := .slice (some ⟨g, 0, none⟩) 1 cap) rfl rfl (by kernel_rfl) (by kernel_rfl) (by kernel_rfl) (fun _ _ _ h => h) (by rfl) ?_ (by assumption) ?_
  · intro x hSx
    obtain ⟨q0, q1, q2, q3, q4, q5, q6, q7⟩ := hSx
    go_simp
  simp only [Act.put, List.setIfInBounds_toArray, List.set_cons_zero, List.set_cons_succ]
  refine wpAnyH_done (by kernel_rfl) ?_ _
  all_goals
    refine HA.out _ _ ?_
    go_wp2_with fail
    rw [rounds_succ]
    go_wp2_with fail
    go_ret2
    refine ⟨_, _, rfl, ?_, ?_⟩
    · have := HT.out
      rw [HX.out] at this
      exact TbRow.mono this (Nat.le_trans HBV.out.size HY2.out)
    · exact HBV.out.trans (HB.out.mono HBV.out.size)
end Go.Proofs.YtgmmhlpdkoiheaaDoor
