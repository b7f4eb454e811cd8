/-
  Joined: P6Cq, P6En, P6Es.
-/
import Derived.Test.YtlnkddmpcicejaaDoorBA
import Derived.Test.YtlnkddmpcicejaaDoorQD
import Derived.Test.YtlnkddmpcicejaaDoorBK
/-
  The reference's Copy once more: its keys and its items are rows of the call's own.
-/
namespace Go.Proofs.YtlnkddmpcicejaaDoor
open Go.RowKit Go.Deep
set_option linter.unusedVariables false

theorem ownsRow_own {w w' : World} {B : Nat} {e : TypeId} {size n : Nat} {v : Value} {xs : List Value} (h : w.ownsRow B e size v n xs) (hk : ∀ k, v.ownBlock = some k → w'.heap[k]? = w.heap[k]?) : w'.ownsRow B e size v n xs := by
  obtain ⟨h1, h2 | ⟨g, cap, cur, hv, hg, hh, hr⟩⟩ := h
  · exact ⟨h1, Or.inl h2⟩
  · exact ⟨h1, Or.inr ⟨g, cap, cur, hv, hg, by rw [hk g (by rw [hv]; rfl)]; exact hh, hr⟩⟩
theorem app_keysX (B H : Nat) (ka : Option Addr) (ss : List ByteArray) (kc : Nat) (W : World) (hS : Strs W ka ss) (hn : ss.length ≤ 8796093022208) (hB : B ≤ H) (hH : W.heap[H]? = some (.cells #[] 9 (0, 0))) :
    ∃ a c W', (Builtin.append_ #[36, 36] 36 #[.slice (some ⟨H, 0, none⟩) 0 0, .slice ka ss.length kc]).run Tryd.prog W = .ok (.slice a ss.length c) W' ∧
      SRow W' B (.slice a ss.length c) ss ∧ Below W.heap.size W W' := by
  have hHl : H < W.heap.size := by
    rcases Nat.lt_or_ge H W.heap.size with h | h
    · exact h
    · rw [Array.getElem?_eq_none h] at hH; cases hH
  obtain ⟨i0, hi, hz0, hz1, hz2⟩ := info_parts5 info_str
  by_cases h0 : ss = []
  · subst h0
    have hs : Src Tryd.prog i0.size 36 (.slice ka 0 kc) 0 [] W := by
      cases ka with
      | none => exact Src.ofNil W Tryd.underlying36 kc
      | some a => exact Src.ofSlice W Tryd.underlying36 a 0 kc [] (by simp) (by simp) (by simp)
    refine ⟨some ⟨H, 0, none⟩, 0, W, ?_, ⟨rfl, Or.inr ⟨H, 0, #[], rfl, hB, hH, Nat.le_refl _, by unfold maxLen; omega, rfl, rfl⟩⟩, Below.refl _ _⟩
    have hr := run_append_room_src (P := Tryd.prog) W 36 36 36 9 i0 Tryd.underlying36 hi H 0 0 0 _ 0 [] hs (by omega) (by simp) (by simp)
    simpa [World.setCells] using hr
  · have hpos : 0 < ss.length := List.length_pos_iff.2 h0
    rcases hS with hS | ⟨b, off, rfl, hb, hc⟩
    · exact absurd hS h0
    have hs : Src Tryd.prog i0.size 36 (.slice (some ⟨b, off, none⟩) ss.length kc) ss.length (ss.map Value.string) W := by
      refine Src.ofSlice W Tryd.underlying36 ⟨b, off, none⟩ ss.length kc _ (by rw [hz1]; simp) ?_ (strs_one ss)
      intro j u hu
      have hj : j < ss.length := by
        have := List.getElem?_eq_some_iff.1 hu
        simpa using this.1
      rw [Go.WideShapes.add_plain, hc j hj]
      rw [List.getElem?_map, List.getElem?_eq_getElem hj] at hu
      simp at hu
      rw [← hu, List.getD_eq_getElem?_getD, List.getElem?_eq_getElem hj]
      rfl
    have hold : (Builtin.firstCells i0.size 0 (.slice (some ⟨H, 0, none⟩) 0 0)).run Tryd.prog W.drew = .ok ([] : List Value).toArray W.drew := run_firstCells_some _ i0.size 0 _ 0 0 [] (by simp) (by simp)
    have hr := run_append_grow_src (P := Tryd.prog) W 36 36 36 9 i0 (.string ByteArray.empty) Tryd.underlying36 hi hz0 (some ⟨H, 0, none⟩) 0 0 [] hold _ ss.length _ hs (by omega) (by omega)
      (by rw [hz2]; have := growslice_fits (need := 0 + ss.length) (old := 0) (bytes := 16) (by omega) (by omega); exact this)
    simp only [Nat.zero_add, List.nil_append] at hr
    have hge := grownCap_ge W ss.length 0 9
    have hcm := grownCap_le_maxLen W ss.length 0 9 (by unfold maxLen; omega)
    refine ⟨_, _, _, hr, ⟨by simp, Or.inr ⟨W.heap.size, _, _, rfl, by omega, heap_alloc_new W.drew _, hge, hcm, ?_, ?_⟩⟩, (below_drewN' W 1).alloc (by simp) _⟩
    · have e1 : (Value.string ByteArray.empty).cells.size = 1 := rfl
      simp only [Array.size_append, List.size_toArray, size_zeroCells, e1, List.length_map]
      omega
    · simp only [Array.toList_append]
      rw [List.take_append_of_le_length (by simp), List.take_of_length_le (by simp)]
set_option maxRecDepth 8000 in
set_option maxHeartbeats 4000000 in
theorem rcopyX_any (p : Pay) (T : BT Pay) (ka : Option Addr) (kc : Nat) (ia : Option Addr) (ic : Nat) (w : World) (hin : OIn w p T ka kc ia ic) :
      Calls Tryd.prog 15 #[ov p ka kc ia (flen T) ic] w fun e w' => (∃ ka' kc' ia' ic' l BB, e = .returned (ov p ka' kc' ia' (flen T) ic') ∧ forest l = T ∧ SRow w' w.heap.size (.slice ka' p.keys.length kc') p.keys ∧ (∀ k, (Value.slice ka' p.keys.length kc').ownBlock = some k → k < BB) ∧ ORow w' BB (.slice ia' (flen T) ic') l ∧ w.heap.size ≤ BB ∧ BB ≤ w'.heap.size) ∧ Below w.heap.size w w' := by
  have IH := hide (fun p T ka kc ia ic w hin => rcopy_any p T ka kc ia ic w hin)
  have HI := hide hin
  have hl1 : (flen T : Int) ≤ 9223372036854775807 := by have h := hin.2.2.1; have h' := hin.2.2.2.1; omega
  have hl0 : (0 : Int) ≤ (flen T : Int) := by omega
  have HB0 := hide ((((Below.refl w.heap.size w).alloc (Nat.le_refl _) (.cells (obox p ka kc ia (flen T) ic) 39)).alloc (by simp) (.cells zobj 39)).alloc (by simp; omega) (.cells #[] 9))
  have hHH : (((w.alloc (.cells (obox p ka kc ia (flen T) ic) 39)).alloc (.cells zobj 39)).alloc (.cells #[] 9)).heap[w.heap.size + 1 + 1]? = some (.cells #[] 9 (0, 0)) := by
    have := heap_alloc_new ((w.alloc (.cells (obox p ka kc ia (flen T) ic) 39)).alloc (.cells zobj 39)) (.cells #[] 9)
    rwa [show ((w.alloc (.cells (obox p ka kc ia (flen T) ic) 39)).alloc (.cells zobj 39)).heap.size = w.heap.size + 1 + 1 by simp] at this
  obtain ⟨ka', kc', w1, hr, hS1, hb1⟩ := app_keysX (w.heap.size + 1 + 1) (w.heap.size + 1 + 1) ka p.keys kc (((w.alloc (.cells (obox p ka kc ia (flen T) ic) 39)).alloc (.cells zobj 39)).alloc (.cells #[] 9)) (hin.2.1.1.below HB0.out) (by have := hin.2.1.2.1; omega) (Nat.le_refl _) hHH
  clear hin
  have HS1 := hide hS1
  have HB1 := hide (below_t5 HB0.out hb1)
  have hz : w.heap.size + 1 + 1 + 1 ≤ w1.heap.size := by have := hb1.size; simpa using this
  have hk0 : Blk w1 w.heap.size (obox p ka kc ia (flen T) ic) 39 := (((Blk.new w _ _).below ((Below.refl _ _).alloc (Nat.le_refl _) _)).below ((Below.refl _ _).alloc (Nat.le_refl _) _)).below hb1
  have hk1 : Blk w1 (w.heap.size + 1) zobj 39 := by
    have := Blk.new (w.alloc (.cells (obox p ka kc ia (flen T) ic) 39)) zobj 39
    rw [show (w.alloc (.cells (obox p ka kc ia (flen T) ic) 39)).heap.size = w.heap.size + 1 by simp] at this
    exact (this.below ((Below.refl _ _).alloc (Nat.le_refl _) _)).below hb1
  have c4 := hk0.cell 4
  have z4 := hk0.frozen 4
  have HK0 := hide hk0
  have HK1 := hide hk1
  have HR := hide hr
  clear hS1 hb1 hr hk0 hk1 HB0
  go_enter Tryd.func15, Tryd.ntmps15
  go_wp2_with (at_builtin; refine Lib.wpList_append_run _ rfl _ _ _ _ rfl _ _ rfl rfl _ _ HR.out ?_)
  clear c4 z4
  obtain ⟨b, off, hia, hrows⟩ := OIn.at_ HI.out
  have HRW := hide hrows
  have HIA := hide hia
  have HW1 : Hid (Below w.heap.size w (w1.setCell ⟨w.heap.size, 4, none⟩ (.slice ka' p.keys.length kc'))) := hide (HB1.out.setCell (p := ⟨w.heap.size, 4, none⟩) (Nat.le_refl _) _)
  have hown1 : ∀ k, (Value.slice ka' p.keys.length kc').ownBlock = some k → w.heap.size + 1 + 1 ≤ k ∧ k < w1.heap.size := fun k hk => World.ownsRow.lt HS1.out k hk
  have HST : Hid (SRow (w1.setCell ⟨w.heap.size, 4, none⟩ (.slice ka' p.keys.length kc')) (w.heap.size + 1 + 1) (.slice ka' p.keys.length kc') p.keys) := hide (ownsRow_own HS1.out fun k hk => Below.heap_setCell _ _ _ _ (by have := hown1 k hk; simp; omega))
  have HKA := hide (HK0.out.set 4 (.slice ka' p.keys.length kc'))
  have HKB := hide (HK1.out.other (b' := w.heap.size) (by omega) 4 (.slice ka' p.keys.length kc'))
  have hz' : w.heap.size + 1 + 1 ≤ (w1.setCell ⟨w.heap.size, 4, none⟩ (.slice ka' p.keys.length kc')).heap.size := by simp [World.setCell]; omega
  have hs12 : (w1.setCell ⟨w.heap.size, 4, none⟩ (.slice ka' p.keys.length kc')).heap.size = w1.heap.size := by simp [World.setCell]
  generalize w1.setCell ⟨w.heap.size, 4, none⟩ (.slice ka' p.keys.length kc') = w2 at HW1 HST HKA HKB hz' hs12 ⊢
  obtain ⟨BB, hBB⟩ : ∃ BB, BB = w2.heap.size := ⟨_, rfl⟩
  have HOWN : Hid (∀ k, (Value.slice ka' p.keys.length kc').ownBlock = some k → w.heap.size + 1 + 1 ≤ k ∧ k < BB) := hide (fun k hk => by have := hown1 k hk; omega)
  have HBB : Hid (w.heap.size + 1 + 1 ≤ BB) := hide (by omega)
  rw [← hBB] at hz'
  have HB2 : Hid (BB ≤ w2.heap.size) := hide (by omega)
  clear hrows hia HK0 HK1 hz HB1 HR hown1 hs12 hBB hz'
  go_loopw [3, 4] (fun vl vi wr => ∃ (k : Nat) (l : List Ent) (U : BT Pay), vi = .int .i64 k ∧ Hid (flen U + k = flen T ∧ fsize U ≤ fsize T ∧ Rows w U b (off + k * 6) ∧ l.length = k ∧ joinF l U = T ∧ ORow wr BB vl l ∧ Below w.heap.size w wr ∧ Blk wr w.heap.size (obox p ka' kc' ia (flen T) ic) 39 ∧ Blk wr (w.heap.size + 1) zobj 39 ∧ SRow wr (w.heap.size + 1 + 1) (.slice ka' p.keys.length kc') p.keys ∧ BB ≤ wr.heap.size)) (fun _ vi _ => flen T - (intOf vi).toNat)
  case atStart => exact ⟨0, [], T, rfl, hide ⟨by omega, Nat.le_refl _, by simpa using HRW.out, rfl, rfl, ORow.nil _ _, HW1.out, HKA.out, HKB.out, HST.out, HB2.out⟩⟩
  case round =>
    clear HW1 HST HKA HKB HB2 HRW
    obtain ⟨k, l, U, rfl, HV⟩ := hrel
    obtain ⟨hk, hu, hrow, hlen, hj, hor, hbel, hk0, hk1, hst, hsz⟩ := HV.out
    clear HV
    have HB := hide hbel
    have HK0 := hide hk0
    have HK1 := hide hk1
    have HST := hide hst
    have HOR := hide hor
    have HJ := hide hj
    have hkk : (0 : Int) ≤ (k : Int) := by omega
    have s5 := hk0.cell 5
    have hs5 : (obox p ka' kc' ia (flen T) ic)[5]? = some (.slice ia (flen T) ic) := rfl
    rw [hs5] at s5
    clear hs5
    cases U with
    | nil =>
      have hk' : ¬ k < flen T := by simp [flen] at hk; omega
      have hjT : forest l = T := by rw [← joinF_nil]; exact hj
      have HJT := hide hjT
      obtain ⟨ia', ic', rfl, hi1, hi2, hi3⟩ := hor.items
      rw [hjT] at hi1 hi3
      have s0 := hk0.cell 0
      have s1 := hk0.cell 1
      have s2 := hk0.cell 2
      have s3 := hk0.cell 3
      have s4 := hk0.cell 4
      have z5 := hk0.frozen 5
      have r0 := hk1.cell 0
      have r1 := hk1.cell 1
      have r2 := hk1.cell 2
      have r3 := hk1.cell 3
      have r4 := hk1.cell 4
      have r5 := hk1.cell 5
      have y0 := hk1.frozen 0
      have y1 := hk1.frozen 1
      have y2 := hk1.frozen 2
      have y3 := hk1.frozen 3
      have y4 := hk1.frozen 4
      have y5 := hk1.frozen 5
      rw [hjT]
      have HI3 := hide hi3
      have HI1 := hide hi1
      clear hk hrow hbel hj hk0 hk1 hst hor hi3 hi1 hjT
      go_wp2_with fail
      have hbf : Below w.heap.size w (((((((wr.setCell ⟨w.heap.size, 5, none⟩ (.slice ia' (flen T) ic')).setCell ⟨w.heap.size + 1, 0, none⟩ (.int .i64 p.kind)).setCell ⟨w.heap.size + 1, 1, none⟩ (.bool p.flag)).setCell ⟨w.heap.size + 1, 2, none⟩ (.int .i64 p.num)).setCell ⟨w.heap.size + 1, 3, none⟩ (.string p.text)).setCell ⟨w.heap.size + 1, 4, none⟩ (.slice ka' p.keys.length kc')).setCell ⟨w.heap.size + 1, 5, none⟩ (.slice ia' (flen T) ic')) :=
        ((((((HB.out.setCell (p := ⟨w.heap.size, 5, none⟩) (Nat.le_refl _) _).setCell (p := ⟨w.heap.size + 1, 0, none⟩) (by simp) _).setCell (p := ⟨w.heap.size + 1, 1, none⟩) (by simp) _).setCell (p := ⟨w.heap.size + 1, 2, none⟩) (by simp) _).setCell (p := ⟨w.heap.size + 1, 3, none⟩) (by simp) _).setCell (p := ⟨w.heap.size + 1, 4, none⟩) (by simp) _).setCell (p := ⟨w.heap.size + 1, 5, none⟩) (by simp) _
      have hkf := ((((((HK1.out.other (b' := w.heap.size) (by omega) 5 (.slice ia' (flen T) ic')).set 0 (.int .i64 p.kind)).set 1 (.bool p.flag)).set 2 (.int .i64 p.num)).set 3 (.string p.text)).set 4 (.slice ka' p.keys.length kc')).set 5 (.slice ia' (flen T) ic')
      have hkeep : ∀ k, w.heap.size + 1 + 1 ≤ k → (((((((wr.setCell ⟨w.heap.size, 5, none⟩ (.slice ia' (flen T) ic')).setCell ⟨w.heap.size + 1, 0, none⟩ (.int .i64 p.kind)).setCell ⟨w.heap.size + 1, 1, none⟩ (.bool p.flag)).setCell ⟨w.heap.size + 1, 2, none⟩ (.int .i64 p.num)).setCell ⟨w.heap.size + 1, 3, none⟩ (.string p.text)).setCell ⟨w.heap.size + 1, 4, none⟩ (.slice ka' p.keys.length kc')).setCell ⟨w.heap.size + 1, 5, none⟩ (.slice ia' (flen T) ic')).heap[k]? = wr.heap[k]? := fun k hk => by
        rw [Below.heap_setCell _ _ _ _ (by simp; omega), Below.heap_setCell _ _ _ _ (by simp; omega), Below.heap_setCell _ _ _ _ (by simp; omega), Below.heap_setCell _ _ _ _ (by simp; omega), Below.heap_setCell _ _ _ _ (by simp; omega), Below.heap_setCell _ _ _ _ (by simp; omega), Below.heap_setCell _ _ _ _ (by simp; omega)]
      have hszz : (((((((wr.setCell ⟨w.heap.size, 5, none⟩ (.slice ia' (flen T) ic')).setCell ⟨w.heap.size + 1, 0, none⟩ (.int .i64 p.kind)).setCell ⟨w.heap.size + 1, 1, none⟩ (.bool p.flag)).setCell ⟨w.heap.size + 1, 2, none⟩ (.int .i64 p.num)).setCell ⟨w.heap.size + 1, 3, none⟩ (.string p.text)).setCell ⟨w.heap.size + 1, 4, none⟩ (.slice ka' p.keys.length kc')).setCell ⟨w.heap.size + 1, 5, none⟩ (.slice ia' (flen T) ic')).heap.size = wr.heap.size := by simp [World.setCell]
      generalize (((((((wr.setCell ⟨w.heap.size, 5, none⟩ (.slice ia' (flen T) ic')).setCell ⟨w.heap.size + 1, 0, none⟩ (.int .i64 p.kind)).setCell ⟨w.heap.size + 1, 1, none⟩ (.bool p.flag)).setCell ⟨w.heap.size + 1, 2, none⟩ (.int .i64 p.num)).setCell ⟨w.heap.size + 1, 3, none⟩ (.string p.text)).setCell ⟨w.heap.size + 1, 4, none⟩ (.slice ka' p.keys.length kc')).setCell ⟨w.heap.size + 1, 5, none⟩ (.slice ia' (flen T) ic')) = wf at hbf hkf hkeep hszz ⊢
      have f0 := hkf.cell 0
      have f1 := hkf.cell 1
      have f2 := hkf.cell 2
      have f3 := hkf.cell 3
      have f4 := hkf.cell 4
      have f5 := hkf.cell 5
      simp at f0 f1 f2 f3 f4 f5
      refine bodyPost_ret (v := ov p ka' kc' ia' (flen T) ic') (by simp [results, Tryd.results15, go_sem, f0, f1, f2, f3, f4, f5]) rfl ⟨⟨ka', kc', ia', ic', l, BB, rfl, HJT.out, ?_, fun k hk => (HOWN.out k hk).2, ?_, ?_, ?_⟩, hbf⟩
      · obtain ⟨h1, h2 | ⟨g, cap, cur, hv, hg, hr⟩⟩ := (ownsRow_own (w' := wf) HST.out fun k hk => hkeep k (HOWN.out k hk).1)
        · exact ⟨h1, Or.inl h2⟩
        · exact ⟨h1, Or.inr ⟨g, cap, cur, hv, by omega, hr⟩⟩
      · have h := HOR.out.kept (w' := wf) (by rw [hszz]; exact Nat.le_refl _) fun k h1 h2 => hkeep k (by have := HBB.out; omega)
        rw [HJT.out] at h
        exact h
      · have := HBB.out; omega
      · rw [hszz]; exact hsz
    | node b0 o0 q TT N =>
      obtain ⟨⟨ka2, kc2, ia2, ic2, g6, gin⟩, grest⟩ := rows_node.1 hrow
      obtain rfl | ⟨rfl, hbz⟩ := HIA.out
      · simp [flen] at hk
      have hlt : k < flen T := by simp [flen] at hk; omega
      have CI := IH.out q TT ka2 kc2 ia2 ic2 wr (gin.below hbel)
      obtain ⟨c0, c1, c2, c3, c4, c5⟩ := g6.below hbz hbel
      have CI := hide CI
      have HK := hide (show flen N + (k + 1) = flen T ∧ fsize N ≤ fsize T by simp [flen, fsize] at hk hu; omega)
      have HRR := hide grest
      have HL := hide hlen
      have AP : Hid (∀ (x : Ent) (y : World), Below wr.heap.size wr y → x.lies (fresh wr.heap.size y) → ∃ g cap w2, (Builtin.append_ #[37, 37] 37 #[u3, .slice (some ⟨y.heap.size, 0, none⟩) 1 1]).run Tryd.prog (y.alloc (.cells x.cells.toArray 39)) = .ok (.slice (some ⟨g, 0, none⟩) (l.length + 1) cap) w2 ∧
          ORow w2 BB (.slice (some ⟨g, 0, none⟩) (l.length + 1) cap) (l ++ [x]) ∧ Below BB y w2 ∧ Sub (only (Part BB u3) y) (only (Part BB (.slice (some ⟨g, 0, none⟩) (l.length + 1) cap)) w2)) := hide (fun x y hy hx => app_obj x hor hy.size (fun k _ h2 => hy.block k h2) hsz hx (by have := HI.out.2.2.1.2; omega) _ rfl)
      clear hk hu hrow hbel g6 gin grest hor hj hk0 hk1 hst hlen
      go_wp2_with (first | (go_at_call 15; refine CI.out.mono ?_; rintro e wy ⟨⟨ka3, kc3, ia3, ic3, rfl, hin3⟩, hy⟩; obtain ⟨g, cap, w2, hr, hor2, hb2, hp2⟩ := AP.out ⟨b0, o0, q, TT, ka3, kc3, ia3, ic3⟩ wy hy hin3; have HR := hide hr; have HY := hide hy; have HO2 := hide hor2; have HB2 := hide hb2; have HP2 := hide hp2; clear hr hy hin3 hor2 hb2 hp2) | (at_builtin; refine Lib.wpList_append_run _ rfl _ _ _ _ rfl _ _ rfl rfl _ _ HR.out ?_))
      go_roundw
      case rel =>
        have hb3 : Below w.heap.size w wy := below_t5 HB.out HY.out
        have hw2 : Below w.heap.size w w2 := hb3.trans (HB2.out.mono (by have := HBB.out; omega))
        exact ⟨k + 1, l ++ [⟨b0, o0, q, TT, ka3, kc3, ia3, ic3⟩], N, by go_num, hide ⟨HK.out.1, HK.out.2, by have := HRR.out; rw [show off + (k + 1) * 6 = off + k * 6 + 6 by omega]; exact this, by simp [HL.out], by rw [joinF_snoc]; exact HJ.out, HO2.out, hw2, (HK0.out.below HY.out).kept HB2.out (by have := HBB.out; omega), (HK1.out.below HY.out).kept HB2.out (by have := HBB.out; omega), ownsRow_own HST.out (fun k hk => by have h := HOWN.out k hk; rw [HB2.out.block k h.2, HY.out.block k (by omega)]), Nat.le_trans (Nat.le_trans hsz HY.out.size) HB2.out.size⟩⟩
      case measure => simp [intOf]; omega
end Go.Proofs.YtlnkddmpcicejaaDoor
/-
  A key and an item more at the end of rows of the call's own; what the reference's Entry answers.
-/
namespace Go.Proofs.YtlnkddmpcicejaaDoor
open Go.RowKit Go.Deep
set_option linter.unusedVariables false

theorem app_keyX {W : World} {B : Nat} {v : Value} {ss : List ByteArray} (s : ByteArray) (h : SRow W B v ss) (hB : B ≤ W.heap.size) (hn : ss.length ≤ 8796093022207) (H : Nat) (hH : W.heap.size = H) :
    ∃ g cap w2, (Builtin.append_ #[36, 36] 36 #[v, .slice (some ⟨H, 0, none⟩) 1 1]).run Tryd.prog (W.alloc (.cells #[.string s] 9)) = .ok (.slice (some ⟨g, 0, none⟩) (ss.length + 1) cap) w2 ∧ SRow w2 B (.slice (some ⟨g, 0, none⟩) (ss.length + 1) cap) (ss ++ [s]) ∧ Below B W w2 ∧ (∀ k, k < W.heap.size → v.ownBlock ≠ some k → w2.heap[k]? = W.heap[k]?) ∧ (v.ownBlock = some g ∨ W.heap.size ≤ g) := by
  obtain ⟨i0, hi, hz0, hz1, hz2⟩ := info_parts5 info_str
  subst hH
  obtain ⟨g, cap, w2, hr, ho, hg, hat, _⟩ := run_append_lies (P := Tryd.prog) (W.alloc (.cells #[.string s] 9)) 36 36 B 9 i0 _ 1 16 Tryd.underlying36 hi hz0 hz1 hz2 rfl (by decide) v ss.length (ss.map Value.string) (World.ownsRow.alloc h _) ⟨W.heap.size, 0, none⟩ 1 1 [.string s] (by simp)
    (fun j u hu => by rw [Go.WideShapes.add_plain, Nat.zero_add, World.cell?_alloc_at _ _ _ _ rfl]; simpa using hu) (fun u hu => by simp at hu; subst hu; rfl) (by decide) (by unfold maxLen; omega) (by omega) (by simp; omega) (W.heap.size + 1) (by simp)
  refine ⟨g, cap, w2, hr, ?_, ((Below.refl B W).alloc hB _).grown hg (by simp; omega) fun k hk' => (World.ownsRow.lt h k hk').1, fun k hk hne => ?_, ?_⟩
  · unfold SRow
    rw [List.map_append, List.length_append]
    exact ho
  · rw [hg.block k (by simp; omega) (fun e => hne e.symm)]
    exact Below.heap_alloc _ _ _ hk
  · rcases hat with ha | ha
    · exact Or.inl ha
    · exact Or.inr (by rw [ha]; simp)
theorem app_objX {W : World} {B : Nat} {v : Value} {l : List Ent} (x : Ent) (h : ORow W B v l) (hB : B ≤ W.heap.size) (hx : x.lies (fresh W.heap.size W)) (hn : l.length + 1 ≤ 1599289640401) (H : Nat) (hH : W.heap.size = H) :
    ∃ g cap w2, (Builtin.append_ #[37, 37] 37 #[v, .slice (some ⟨H, 0, none⟩) 1 1]).run Tryd.prog (W.alloc (.cells x.cells.toArray 39)) = .ok (.slice (some ⟨g, 0, none⟩) (l.length + 1) cap) w2 ∧
      ORow w2 B (.slice (some ⟨g, 0, none⟩) (l.length + 1) cap) (l ++ [x]) ∧ Below B W w2 ∧ (∀ k, k < W.heap.size → v.ownBlock ≠ some k → w2.heap[k]? = W.heap[k]?) := by
  obtain ⟨i0, hi, hz0, hz1, hz2⟩ := info_parts5 info_obj
  have hown : (W.alloc (.cells x.cells.toArray 39)).ownsRow B 39 6 v l.length (ecells l) := h.1.alloc _
  subst hH
  obtain ⟨g, cap, w2, hr, ho, hg, hat, hlt⟩ := run_append_lies (P := Tryd.prog) (W.alloc (.cells x.cells.toArray 39)) 37 37 B 39 i0 _ 6 88 Tryd.underlying37 hi hz0 hz1 hz2 rfl (by decide) v l.length (ecells l) hown ⟨W.heap.size, 0, none⟩ 1 1 x.cells rfl
    (fun j u hu => by rw [Go.WideShapes.add_plain, Nat.zero_add, World.cell?_alloc_at _ _ _ _ rfl]; simpa using hu) (fun u hu => by simp [Ent.cells] at hu; rcases hu with rfl | rfl | rfl | rfl | rfl | rfl <;> rfl) (by decide) (by unfold maxLen; omega) (by omega) (by simp; omega) (W.heap.size + 1) (by simp)
  refine ⟨g, cap, w2, hr, ?_, ((Below.refl B W).alloc (by omega) _).grown hg (by simp; omega) fun k hk' => (World.ownsRow.lt h.1 k hk').1, fun k hk hne => ?_⟩
  · refine h.appended (w1 := W.alloc (.cells x.cells.toArray 39)) (by simp) hB (fun k h1 h2 => Below.heap_alloc _ _ _ h2) (OIn.sub (fresh_le (Nat.le_refl _) ((Below.refl _ _).alloc (Nat.le_refl _) _)) hx) ho hg ?_
    rcases hat with ha | ha
    · exact Or.inl ha
    · exact Or.inr (by rw [ha]; simp)
  · rw [hg.block k (by simp; omega) (fun e => hne e.symm)]
    exact Below.heap_alloc _ _ _ hk
/- what Entry answers -/
def EnR (k : Nat) (x : EP) (e : Ending) : Prop :=
  if (objT (bdP x) (bdT x)).length ≤ 1048576 then e = .returned (.tuple #[.string ⟨(entT k x).toArray⟩, .bool true]) else ∃ s, e = .returned (.tuple #[.string s, .bool false])
theorem str_eq {a : ByteArray} {l : List UInt8} (h : a.data.toList = l) : a = ⟨l.toArray⟩ := by
  apply ByteArray.ext
  rw [← h]
end Go.Proofs.YtlnkddmpcicejaaDoor
/-
  What the reference's Entry answers of a stream.
-/
namespace Go.Proofs.YtlnkddmpcicejaaDoor
open Go.RowKit Go.Deep
set_option linter.unusedVariables false

/- the copy with its length, in memory: what lies where, world by world -/
theorem len_lies {w7 : World} {B BB g4 cap4 g6 cap6 : Nat} {p : Pay} {l : List Ent} {n : Nat} (hp : p.ok) (hS : SRow w7 B (.slice (some ⟨g4, 0, none⟩) (p.keys.length + 1) cap4) (p.keys ++ [lenS])) (hO : ORow w7 BB (.slice (some ⟨g6, 0, none⟩) (l.length + 1) cap6) (l ++ [lenE n])) (hk : p.keys.length ≤ 8796093022207) (hl : l.length ≤ 1599289640400) :
    OIn w7 (addK p) (snocF (forest l) (lenP n)) (some ⟨g4, 0, none⟩) cap4 (some ⟨g6, 0, none⟩) cap6 := by
  obtain ⟨a, c, e1, hst, hc1, hc2⟩ := hS.strs
  obtain ⟨a2, c2, e2, hd1, hd2, hrows⟩ := hO.items
  have ek : (p.keys ++ [lenS]).length = p.keys.length + 1 := by simp
  have ef : forest (l ++ [lenE n]) = snocF (forest l) (lenP n) := forest_snoc _ _
  rw [ef] at e2 hd1 hrows
  have et : flen (snocF (forest l) (lenP n)) = l.length + 1 := by rw [snocF_len, forest_len]
  injection e1 with e1a _ e1c
  injection e2 with e2a _ e2c
  subst e1a e1c e2a e2c
  refine ⟨⟨hp.1, hp.2.1, hp.2.2.1, fun s hs => ?_⟩, ⟨hst.sub (fresh_sub _ _), ⟨hc1, by rw [ek]; omega⟩, hc2⟩, ⟨hd1, by rw [et]; omega⟩, hd2, ?_⟩
  · rcases List.mem_append.1 hs with hs | hs
    · exact hp.2.2.2 s hs
    · obtain rfl : s = lenS := by simpa using hs
      decide
  · rcases hrows with h | ⟨b', off', e, hlt, hR⟩
    · exact Or.inl h
    · exact Or.inr ⟨b', off', e, by rw [fresh, only_size] at hlt; exact hlt, hR.sub (fresh_sub _ _)⟩
theorem own_eq {g n c k : Nat} (h : (Value.slice (some ⟨g, 0, none⟩) n c).ownBlock = some k) : g = k := by simpa [Value.ownBlock] using h
set_option maxRecDepth 8000 in
theorem stream_worlds (x : EP) (ka : Option Addr) (kc : Nat) (ia : Option Addr) (ic : Nat) (w w2 : World) (ka' : Option Addr) (kc' : Nat) (ia' : Option Addr) (ic' : Nat) (l : List Ent) (BB : Nat)
    (hB : Below w.heap.size w w2) (hE : Blk w2 w.heap.size (ebox x ka kc ia ic) 41) (hO : Blk w2 (w.heap.size + 1) (obox x.p ka kc ia (flen x.T) ic) 39)
    (hf : forest l = x.T) (hS : SRow w2 (w.heap.size + 1 + 1) (.slice ka' x.p.keys.length kc') x.p.keys) (hSB : ∀ k, (Value.slice ka' x.p.keys.length kc').ownBlock = some k → k < BB) (hR : ORow w2 BB (.slice ia' (flen x.T) ic') l) (hBB : w.heap.size + 1 + 1 ≤ BB) (hBw : BB ≤ w2.heap.size)
    (hp : x.p.ok) (hk : x.p.keys.length ≤ 8796093022207) (hl : flen x.T ≤ 1599289640400) (hd : x.da.size ≤ 140737488351232) :
    ∃ g4 cap4 w4 g6 cap6 w6,
      (Builtin.append_ #[36, 36] 36 #[.slice ka' x.p.keys.length kc', .slice (some ⟨w2.heap.size, 0, none⟩) 1 1]).run Tryd.prog ((st6 w2 (w.heap.size + 1) (.int .i64 x.p.kind) (.bool x.p.flag) (.int .i64 x.p.num) (.string x.p.text) (.slice ka' x.p.keys.length kc') (.slice ia' (flen x.T) ic')).alloc (.cells #[.string lenS] 9)) = .ok (.slice (some ⟨g4, 0, none⟩) (x.p.keys.length + 1) cap4) w4 ∧
      Blk w4 w.heap.size (ebox x ka kc ia ic) 41 ∧ Blk w4 (w.heap.size + 1) (obox x.p ka' kc' ia' (flen x.T) ic') 39 ∧
      (Builtin.append_ #[37, 37] 37 #[.slice ia' (flen x.T) ic', .slice (some ⟨w4.heap.size, 0, none⟩) 1 1]).run Tryd.prog ((w4.setCell ⟨w.heap.size + 1, 4, none⟩ (.slice (some ⟨g4, 0, none⟩) (x.p.keys.length + 1) cap4)).alloc (.cells (lenE x.da.size).cells.toArray 39)) = .ok (.slice (some ⟨g6, 0, none⟩) (flen x.T + 1) cap6) w6 ∧
      Blk w6 w.heap.size (ebox x ka kc ia ic) 41 ∧ Blk w6 (w.heap.size + 1) (kbox x.p (some ⟨g4, 0, none⟩) (x.p.keys.length + 1) cap4 ia' (flen x.T) ic') 39 ∧
      OIn (w6.setCell ⟨w.heap.size + 1, 5, none⟩ (.slice (some ⟨g6, 0, none⟩) (flen x.T + 1) cap6)) (addK x.p) (snocF x.T (lenP x.da.size)) (some ⟨g4, 0, none⟩) cap4 (some ⟨g6, 0, none⟩) cap6 ∧
      Blk (w6.setCell ⟨w.heap.size + 1, 5, none⟩ (.slice (some ⟨g6, 0, none⟩) (flen x.T + 1) cap6)) (w.heap.size + 1) (kbox x.p (some ⟨g4, 0, none⟩) (x.p.keys.length + 1) cap4 (some ⟨g6, 0, none⟩) (flen x.T + 1) cap6) 39 ∧
      Below w.heap.size w (w6.setCell ⟨w.heap.size + 1, 5, none⟩ (.slice (some ⟨g6, 0, none⟩) (flen x.T + 1) cap6)) := by
  have hll : l.length = flen x.T := by rw [← hf, forest_len]
  have hs3 := st6_size w2 (w.heap.size + 1) (.int .i64 x.p.kind) (.bool x.p.flag) (.int .i64 x.p.num) (.string x.p.text) (.slice ka' x.p.keys.length kc') (.slice ia' (flen x.T) ic')
  have hb3 : ∀ k, k ≠ w.heap.size + 1 → (st6 w2 (w.heap.size + 1) (.int .i64 x.p.kind) (.bool x.p.flag) (.int .i64 x.p.num) (.string x.p.text) (.slice ka' x.p.keys.length kc') (.slice ia' (flen x.T) ic')).heap[k]? = w2.heap[k]? := fun k hk => st6_block hk _ _ _ _ _ _
  have hO3 := st6_blk hO (.int .i64 x.p.kind) (.bool x.p.flag) (.int .i64 x.p.num) (.string x.p.text) (.slice ka' x.p.keys.length kc') (.slice ia' (flen x.T) ic')
  have hB3 := st6_below hB (b := w.heap.size + 1) (by omega) (.int .i64 x.p.kind) (.bool x.p.flag) (.int .i64 x.p.num) (.string x.p.text) (.slice ka' x.p.keys.length kc') (.slice ia' (flen x.T) ic')
  generalize st6 w2 (w.heap.size + 1) (.int .i64 x.p.kind) (.bool x.p.flag) (.int .i64 x.p.num) (.string x.p.text) (.slice ka' x.p.keys.length kc') (.slice ia' (flen x.T) ic') = w3 at hs3 hb3 hO3 hB3 ⊢
  have hownS : ∀ k, (Value.slice ka' x.p.keys.length kc').ownBlock = some k → w.heap.size + 1 + 1 ≤ k ∧ k < w2.heap.size := fun k hk => World.ownsRow.lt hS k hk
  have hownR : ∀ k, (Value.slice ia' (flen x.T) ic').ownBlock = some k → BB ≤ k ∧ k < w2.heap.size := fun k hk => World.ownsRow.lt hR.1 k hk
  have hE3 : Blk w3 w.heap.size (ebox x ka kc ia ic) 41 := by unfold Blk at *; rw [hb3 _ (by omega)]; exact hE
  have hS3 : SRow w3 (w.heap.size + 1 + 1) (.slice ka' x.p.keys.length kc') x.p.keys := ownsRow_own hS fun k hk => hb3 k (by have := hownS k hk; omega)
  have hR3 : ORow w3 BB (.slice ia' (flen x.T) ic') l := hR.kept (by omega) fun k h1 h2 => hb3 k (by omega)
  obtain ⟨g4, cap4, w4, hr4, hS4, hB4, hn4, hg4⟩ := app_keyX lenS hS3 (by have h1 := hE.lt; omega) hk w2.heap.size hs3
  have hneE : (Value.slice ka' x.p.keys.length kc').ownBlock ≠ some w.heap.size := fun e => by have := hownS _ e; omega
  have hneO : (Value.slice ka' x.p.keys.length kc').ownBlock ≠ some (w.heap.size + 1) := fun e => by have := hownS _ e; omega
  have hE4 : Blk w4 w.heap.size (ebox x ka kc ia ic) 41 := by have h := hE3.lt; unfold Blk at *; rw [hn4 _ h hneE]; exact hE3
  have hO4 : Blk w4 (w.heap.size + 1) (obox x.p ka' kc' ia' (flen x.T) ic') 39 := by have h := hO3.lt; unfold Blk at *; rw [hn4 _ h hneO]; exact hO3
  have hs4 : w3.heap.size ≤ w4.heap.size := hB4.size
  have hR4 : ORow w4 BB (.slice ia' (flen x.T) ic') l := hR3.kept hs4 fun k h1 h2 => hn4 k h2 (fun e => by have := hSB k e; omega)
  have hB4' : Below w.heap.size w w4 := hB3.trans (hB4.mono (by omega))
  have hO5 := hO4.set 4 (.slice (some ⟨g4, 0, none⟩) (x.p.keys.length + 1) cap4)
  have hE5 := hE4.other (b' := w.heap.size + 1) (by omega) 4 (.slice (some ⟨g4, 0, none⟩) (x.p.keys.length + 1) cap4)
  have hb5 : ∀ k, k ≠ w.heap.size + 1 → (w4.setCell ⟨w.heap.size + 1, 4, none⟩ (.slice (some ⟨g4, 0, none⟩) (x.p.keys.length + 1) cap4)).heap[k]? = w4.heap[k]? := fun k hk => Below.heap_setCell _ _ _ _ (by simpa using hk)
  have hs5 : (w4.setCell ⟨w.heap.size + 1, 4, none⟩ (.slice (some ⟨g4, 0, none⟩) (x.p.keys.length + 1) cap4)).heap.size = w4.heap.size := by simp [World.setCell]
  have hB5 : Below w.heap.size w (w4.setCell ⟨w.heap.size + 1, 4, none⟩ (.slice (some ⟨g4, 0, none⟩) (x.p.keys.length + 1) cap4)) := hB4'.setCell (p := ⟨w.heap.size + 1, 4, none⟩) (by simp) _
  generalize hw5 : w4.setCell ⟨w.heap.size + 1, 4, none⟩ (.slice (some ⟨g4, 0, none⟩) (x.p.keys.length + 1) cap4) = w5 at hO5 hE5 hb5 hs5 hB5
  have hO5' : Blk w5 (w.heap.size + 1) (kbox x.p (some ⟨g4, 0, none⟩) (x.p.keys.length + 1) cap4 ia' (flen x.T) ic') 39 := hO5
  have hown4 : w.heap.size + 1 + 1 ≤ g4 ∧ g4 < w4.heap.size := World.ownsRow.lt hS4 g4 rfl
  have hS5 : SRow w5 (w.heap.size + 1 + 1) (.slice (some ⟨g4, 0, none⟩) (x.p.keys.length + 1) cap4) (x.p.keys ++ [lenS]) := ownsRow_own hS4 fun k hk => hb5 k (by have h := own_eq hk; omega)
  have hR5 : ORow w5 BB (.slice ia' (flen x.T) ic') l := hR4.kept (by omega) fun k h1 h2 => hb5 k (by omega)
  obtain ⟨g6, cap6, w6, hr6, hR6, hB6, hn6⟩ := app_objX (lenE x.da.size) hR5 (by omega) (lenE_lies _ _ hd) (by omega) w4.heap.size hs5
  rw [hll] at hr6
  have hneE6 : (Value.slice ia' (flen x.T) ic').ownBlock ≠ some w.heap.size := fun e => by have := hownR _ e; omega
  have hneO6 : (Value.slice ia' (flen x.T) ic').ownBlock ≠ some (w.heap.size + 1) := fun e => by have := hownR _ e; omega
  have hneG : (Value.slice ia' (flen x.T) ic').ownBlock ≠ some g4 := fun e => by
    have h1 := hownR _ e
    rcases hg4 with h | h
    · have := hSB _ h; omega
    · omega
  have hE6 : Blk w6 w.heap.size (ebox x ka kc ia ic) 41 := by have h := hE5.lt; unfold Blk at *; rw [hn6 _ h hneE6]; exact hE5
  have hO6 : Blk w6 (w.heap.size + 1) (kbox x.p (some ⟨g4, 0, none⟩) (x.p.keys.length + 1) cap4 ia' (flen x.T) ic') 39 := by have h := hO5'.lt; unfold Blk at *; rw [hn6 _ h hneO6]; exact hO5'
  have hS6 : SRow w6 (w.heap.size + 1 + 1) (.slice (some ⟨g4, 0, none⟩) (x.p.keys.length + 1) cap4) (x.p.keys ++ [lenS]) := ownsRow_own hS5 fun k hk => by
    have h : g4 = k := by simpa [Value.ownBlock] using hk
    subst h
    exact hn6 _ (by omega) hneG
  have hB6' : Below w.heap.size w w6 := hB5.trans (hB6.mono (by omega))
  have hO7 := hO6.set 5 (.slice (some ⟨g6, 0, none⟩) (flen x.T + 1) cap6)
  have hb7 : ∀ k, k ≠ w.heap.size + 1 → (w6.setCell ⟨w.heap.size + 1, 5, none⟩ (.slice (some ⟨g6, 0, none⟩) (flen x.T + 1) cap6)).heap[k]? = w6.heap[k]? := fun k hk => Below.heap_setCell _ _ _ _ (by simpa using hk)
  have hs7 : (w6.setCell ⟨w.heap.size + 1, 5, none⟩ (.slice (some ⟨g6, 0, none⟩) (flen x.T + 1) cap6)).heap.size = w6.heap.size := by simp [World.setCell]
  have hB7 : Below w.heap.size w (w6.setCell ⟨w.heap.size + 1, 5, none⟩ (.slice (some ⟨g6, 0, none⟩) (flen x.T + 1) cap6)) := hB6'.setCell (p := ⟨w.heap.size + 1, 5, none⟩) (by simp) _
  rw [← hw5] at hr6
  refine ⟨g4, cap4, w4, g6, cap6, w6, hr4, hE4, hO4, hr6, hE6, hO6, ?_, ?_, hB7⟩
  · generalize w6.setCell ⟨w.heap.size + 1, 5, none⟩ (.slice (some ⟨g6, 0, none⟩) (flen x.T + 1) cap6) = w7 at hb7 hs7 ⊢
    have hS7 : SRow w7 (w.heap.size + 1 + 1) (.slice (some ⟨g4, 0, none⟩) (x.p.keys.length + 1) cap4) (x.p.keys ++ [lenS]) := ownsRow_own hS6 fun k hk => hb7 k (by have h := own_eq hk; omega)
    have hR7 : ORow w7 BB (.slice (some ⟨g6, 0, none⟩) (l.length + 1) cap6) (l ++ [lenE x.da.size]) := hR6.kept (by omega) fun k h1 h2 => hb7 k (by omega)
    have h := len_lies hp hS7 hR7 hk (by omega)
    rw [hf] at h
    exact h
  · exact hO7
end Go.Proofs.YtlnkddmpcicejaaDoor
